"""The calls on one object: read from a list of whole numbers, answered one behind another."""

from samecells.choosing import ASIDE, IN_PLACE, best_choice, cells_with, numbers_with, sent_cells
from samecells.copies import MOST_COPIES, Copy, ahead_of, fits, order_of, share_new_cell
from samecells.doing import MOST_CELLS, careless_cells, done_cells
from samecells.stretches import found_copies, longest

MOST_ROOM = 16
MOST_HELD = 999

NO_SUCH = -2
NOT_BEGUN = -11
TAKEN = -17
WRONG = -22
FULL = -28

BEGIN = 0

# How many whole numbers stand behind each call's own number, from call 0 on.
ARGUMENTS = (3, 2, 2, 3, 1, 0, 0, 1, 1, 0, 0, 0, 0, 0, 0, 0, 1, 0, 1, 1, 1, 1, 0)


class Desk:
    """What is known between two calls."""

    def __init__(self):
        self.begun = False
        self.old = []
        self.wanted = []
        self.room = 0
        self.copies = []


def counted(numbers):
    return [len(numbers)] + numbers


def one_or_zero(answer):
    return [1] if answer else [0]


def is_cell_count(n):
    return 1 <= n and n <= MOST_CELLS


def begin(desk, arguments):
    n = arguments[0]
    m = arguments[1]
    s = arguments[2]
    if not is_cell_count(n) or not is_cell_count(m) or s > MOST_ROOM:
        return [WRONG]
    desk.begun = True
    desk.old = [0 for i in range(n)]
    desk.wanted = [0 for i in range(m)]
    desk.room = s
    desk.copies = []
    return [0]


def put(cells, i, v):
    if i >= len(cells):
        return [NO_SUCH]
    if v > MOST_HELD:
        return [WRONG]
    was = cells[i]
    cells[i] = v
    return [was]


def put_old(desk, arguments):
    return put(desk.old, arguments[0], arguments[1])


def put_wanted(desk, arguments):
    return put(desk.wanted, arguments[0], arguments[1])


def does_fit(desk, copy):
    return fits(copy, desk.old, desk.wanted)


def add_copy(desk, arguments):
    copy = Copy(arguments[0], arguments[1], arguments[2])
    if copy.length == 0:
        return [WRONG]
    if copy.source + copy.length > len(desk.old) or copy.target + copy.length > len(desk.wanted):
        return [WRONG]
    if any([share_new_cell(copy, other) for other in desk.copies]):
        return [TAKEN]
    if len(desk.copies) == MOST_COPIES:
        return [FULL]
    desk.copies.append(copy)
    return one_or_zero(does_fit(desk, copy))


def drop(desk, arguments):
    i = arguments[0]
    if i >= len(desk.copies):
        return [NO_SUCH]
    desk.copies.pop(i)
    return [len(desk.copies)]


def as_told(copy):
    return [copy.source, copy.target, copy.length]


def found(desk, arguments):
    copies = found_copies(desk.old, desk.wanted)
    answer = [len(copies)]
    for copy in copies:
        answer.extend(as_told(copy))
    return answer


def take(desk, arguments):
    desk.copies = found_copies(desk.old, desk.wanted)
    return [len(desk.copies)]


def tell_fits(desk, arguments):
    i = arguments[0]
    if i >= len(desk.copies):
        return [NO_SUCH]
    return one_or_zero(does_fit(desk, desk.copies[i]))


def ahead(desk, arguments):
    i = arguments[0]
    if i >= len(desk.copies):
        return [NO_SUCH]
    return counted(ahead_of(desk.copies, i, list(range(len(desk.copies)))))


def those_fitting(desk):
    """The numbers of the copies that fit, rising."""
    return [i for i in range(len(desk.copies)) if does_fit(desk, desk.copies[i])]


def ring(desk, arguments):
    return one_or_zero(order_of(desk.copies, those_fitting(desk)) is None)


def best_with(desk, copies, room):
    """The best choice, were these the copies and were there this room."""
    return best_choice(copies, [does_fit(desk, copy) for copy in copies], room)


def sent_with(desk, copies, room):
    """How many cells would be sent, were these the copies and were there this room."""
    return len(sent_cells(copies, best_with(desk, copies, room), len(desk.wanted)))


def chosen(desk):
    return best_with(desk, desk.copies, desk.room)


def best(desk, arguments):
    choice = chosen(desk)
    cells = sent_cells(desk.copies, choice, len(desk.wanted))
    return [len(cells), cells_with(desk.copies, choice, ASIDE)]


def tell_choice(desk, arguments):
    return counted(chosen(desk))


def order(desk, arguments):
    return counted(order_of(desk.copies, numbers_with(chosen(desk), IN_PLACE)))


def sent(desk, arguments):
    return counted(sent_cells(desk.copies, chosen(desk), len(desk.wanted)))


def done(desk, arguments):
    return counted(done_cells(desk.old, desk.wanted, desk.copies, chosen(desk)))


def careless(desk, arguments):
    copies = [desk.copies[i] for i in those_fitting(desk)]
    return counted(careless_cells(desk.old, desk.wanted, copies))


def if_room(desk, arguments):
    s = arguments[0]
    if s > MOST_ROOM:
        return [WRONG]
    return [sent_with(desk, desk.copies, s)]


def least_room(desk, arguments):
    # With the most room all copies that fit may be kept aside, so the best choice leaves none of them out,
    # and of the choices that leave none out it keeps the fewest cells aside.
    choice = best_with(desk, desk.copies, MOST_ROOM)
    return [cells_with(desk.copies, choice, ASIDE)]


def without(desk, arguments):
    i = arguments[0]
    if i >= len(desk.copies):
        return [NO_SUCH]
    return [sent_with(desk, desk.copies[:i] + desk.copies[i + 1:], desk.room)]


def put_room(desk, arguments):
    s = arguments[0]
    if s > MOST_ROOM:
        return [WRONG]
    was = desk.room
    desk.room = s
    return [was]


def tell_longest(desk, arguments):
    t = arguments[0]
    if t >= len(desk.wanted):
        return [NO_SUCH]
    copy = longest(desk.old, desk.wanted, t)
    return [copy.length, copy.source]


def told(desk, arguments):
    i = arguments[0]
    if i >= len(desk.copies):
        return [NO_SUCH]
    return as_told(desk.copies[i])


def rows(desk, arguments):
    return counted(desk.old) + counted(desk.wanted)


# By the call's number, from call 0 on.
HANDLERS = (
    begin, put_old, put_wanted, add_copy, drop, found, take, tell_fits, ahead, ring, best, tell_choice,
    order, sent, done, careless, if_room, least_room, without, put_room, tell_longest, told, rows,
)


def answer_to(desk, number, arguments):
    if number != BEGIN and not desk.begun:
        return [NOT_BEGUN]
    handler = HANDLERS[number]
    return handler(desk, arguments)


def answers(calls):
    """Of each call, in order, how many numbers are answered, then these."""
    desk = Desk()
    given = []
    at = 0
    while at < len(calls):
        number = calls[at]
        behind = at + 1 + ARGUMENTS[number]
        given.extend(counted(answer_to(desk, number, calls[at + 1:behind])))
        at = behind
    return given
