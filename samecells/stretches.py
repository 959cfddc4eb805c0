"""Stretches of old cells that hold what is wanted, and the copies that are found by them."""

from samecells.copies import MOST_COPIES, Copy

LEAST_FOUND = 2


def stretch(old, wanted, f, t):
    """How many old cells from f on hold, one by one, what is wanted from new cell t on."""
    n = 0
    while f + n < len(old) and t + n < len(wanted) and old[f + n] == wanted[t + n]:
        n += 1
    return n


def longest(old, wanted, t):
    """The longest stretch for new cell t on, as a copy: of like long ones the first, 0 cells from 0 on if none."""
    best = Copy(0, t, 0)
    for f in range(len(old)):
        n = stretch(old, wanted, f, t)
        if n > best.length:
            best = Copy(f, t, n)
    return best


def found_copies(old, wanted):
    copies = []
    t = 0
    while t < len(wanted) and len(copies) < MOST_COPIES:
        copy = longest(old, wanted, t)
        if copy.length >= LEAST_FOUND:
            copies.append(copy)
            t += copy.length
        else:
            t += 1
    return copies
