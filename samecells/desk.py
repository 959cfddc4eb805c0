"""The calls on one object: read from a list of whole numbers, answered one behind another."""

from samecells.choosing import ASIDE, best_choice, cells_with, sent_count
from samecells.copies import MOST_COPIES, Copy, ahead_of, fits, order_of, share_new_cell
from samecells.stretches import found_copies

MOST_CELLS = 16
MOST_ROOM = 16
MOST_HELD = 999

NO_SUCH = -2
NOT_BEGUN = -11
TAKEN = -17
WRONG = -22
FULL = -28

BEGIN = 0

# How many whole numbers stand behind each call's own number, from call 0 on.
ARGUMENTS = (3, 2, 2, 3, 1, 0, 0, 1, 1, 0, 0, 0, 0, 0, 0, 0, 1, 0, 1, 1, 1, 1, 0)


class Desk:
    """What is known between two calls."""

    def __init__(self):
        self.begun = False
        self.old = []
        self.wanted = []
        self.room = 0
        self.copies = []


def counted(numbers):
    return [len(numbers)] + numbers


def one_or_zero(answer):
    return [1] if answer else [0]


def is_cell_count(n):
    return 1 <= n and n <= MOST_CELLS


def begin(desk, arguments):
    n = arguments[0]
    m = arguments[1]
    s = arguments[2]
    if not is_cell_count(n) or not is_cell_count(m) or s > MOST_ROOM:
        return [WRONG]
    desk.begun = True
    desk.old = [0 for i in range(n)]
    desk.wanted = [0 for i in range(m)]
    desk.room = s
    desk.copies = []
    return [0]


def put(cells, i, v):
    if i >= len(cells):
        return [NO_SUCH]
    if v > MOST_HELD:
        return [WRONG]
    was = cells[i]
    cells[i] = v
    return [was]


def put_old(desk, arguments):
    return put(desk.old, arguments[0], arguments[1])


def put_wanted(desk, arguments):
    return put(desk.wanted, arguments[0], arguments[1])


def does_fit(desk, copy):
    return fits(copy, desk.old, desk.wanted)


def add_copy(desk, arguments):
    copy = Copy(arguments[0], arguments[1], arguments[2])
    if copy.length == 0:
        return [WRONG]
    if copy.source + copy.length > len(desk.old) or copy.target + copy.length > len(desk.wanted):
        return [WRONG]
    if any([share_new_cell(copy, other) for other in desk.copies]):
        return [TAKEN]
    if len(desk.copies) == MOST_COPIES:
        return [FULL]
    desk.copies.append(copy)
    return one_or_zero(does_fit(desk, copy))


def drop(desk, arguments):
    i = arguments[0]
    if i >= len(desk.copies):
        return [NO_SUCH]
    desk.copies.pop(i)
    return [len(desk.copies)]


def found(desk, arguments):
    copies = found_copies(desk.old, desk.wanted)
    answer = [len(copies)]
    for copy in copies:
        answer.extend([copy.source, copy.target, copy.length])
    return answer


def take(desk, arguments):
    desk.copies = found_copies(desk.old, desk.wanted)
    return [len(desk.copies)]


def tell_fits(desk, arguments):
    i = arguments[0]
    if i >= len(desk.copies):
        return [NO_SUCH]
    return one_or_zero(does_fit(desk, desk.copies[i]))


def ahead(desk, arguments):
    i = arguments[0]
    if i >= len(desk.copies):
        return [NO_SUCH]
    return counted(ahead_of(desk.copies, i, list(range(len(desk.copies)))))


def fitting(desk):
    """Of each copy whether it fits."""
    return [does_fit(desk, copy) for copy in desk.copies]


def ring(desk, arguments):
    fit = fitting(desk)
    numbers = [i for i in range(len(fit)) if fit[i]]
    return one_or_zero(order_of(desk.copies, numbers) is None)


def chosen(desk):
    return best_choice(desk.copies, fitting(desk), desk.room)


def best(desk, arguments):
    choice = chosen(desk)
    sent = sent_count(desk.copies, choice, len(desk.wanted))
    return [sent, cells_with(desk.copies, choice, ASIDE)]


def tell_choice(desk, arguments):
    return counted(chosen(desk))


# By the call's number, from call 0 on; the calls behind these are not built.
HANDLERS = (
    begin, put_old, put_wanted, add_copy, drop, found, take,
    tell_fits, ahead, ring, best, tell_choice,
)


def answer_to(desk, number, arguments):
    if number != BEGIN and not desk.begun:
        return [NOT_BEGUN]
    if number >= len(HANDLERS):
        raise NotImplementedError(f"call {number} is not built")
    handler = HANDLERS[number]
    return handler(desk, arguments)


def answers(calls):
    """Of each call, in order, how many numbers are answered, then these."""
    desk = Desk()
    given = []
    at = 0
    while at < len(calls):
        number = calls[at]
        behind = at + 1 + ARGUMENTS[number]
        given.extend(counted(answer_to(desk, number, calls[at + 1:behind])))
        at = behind
    return given
