"""Copies: the old cells that they read, the new ones that they write, and which has to be ahead of which."""

MOST_COPIES = 7


class Copy:
    """The length old cells from source on are to be the new ones from target on."""

    def __init__(self, source, target, length):
        self.source = source
        self.target = target
        self.length = length


def overlap(start, length, other_start, other_length):
    return start < other_start + other_length and other_start < start + length


def share_new_cell(copy, other):
    return overlap(copy.target, copy.length, other.target, other.length)


def has_new_cell(copies, t):
    """Whether one of the copies has the new cell t."""
    return any([overlap(copy.target, copy.length, t, 1) for copy in copies])


def has_to_be_ahead(copy, other):
    return overlap(copy.source, copy.length, other.target, other.length)


def fits(copy, old, wanted):
    for k in range(copy.length):
        if old[copy.source + k] != wanted[copy.target + k]:
            return False
    return True


def ahead_of(copies, i, numbers):
    """Which of these numbers are copies that have to be ahead of copy i."""
    # A copy reads all its cells ahead of writing them, so it never waits for itself.
    return [j for j in numbers if j != i and has_to_be_ahead(copies[j], copies[i])]


def first_free(copies, left):
    """The first of those left that no other one left has to be ahead of, or None."""
    for i in left:
        if len(ahead_of(copies, i, left)) == 0:
            return i
    return None


def order_of(copies, numbers):
    """The order of the copies with these rising numbers, or None if they have none."""
    left = list(numbers)
    order = []
    while len(left) > 0:
        i = first_free(copies, left)
        if i is None:
            return None
        left.remove(i)
        order.append(i)
    return order
