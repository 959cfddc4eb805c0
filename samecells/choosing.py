"""Choices: what is done with each copy, whether that may be made, and the best one."""

from samecells.copies import has_new_cell, order_of

IN_PLACE = 0
ASIDE = 1
LEFT_OUT = 2


def lengthened(choices, numbers):
    longer = []
    for choice in choices:
        for number in numbers:
            longer.append(choice + [number])
    return longer


def choices_for(fitting):
    """Every choice that leaves out each copy that doesn't fit; fitting says of each whether it does."""
    choices = [[]]
    for fit in fitting:
        choices = lengthened(choices, (IN_PLACE, ASIDE, LEFT_OUT) if fit else (LEFT_OUT,))
    return choices


def numbers_with(choice, number):
    """The numbers of the copies, rising, of which the choice says this number."""
    return [i for i in range(len(choice)) if choice[i] == number]


def cells_with(copies, choice, number):
    """How many cells the copies have, together, of which the choice says this number."""
    return sum([copies[i].length for i in numbers_with(choice, number)])


def may_be_made(copies, choice, room):
    """Whether a choice that leaves out each copy that doesn't fit may be made."""
    if cells_with(copies, choice, ASIDE) > room:
        return False
    return order_of(copies, numbers_with(choice, IN_PLACE)) is not None


def rank(copies, choice):
    """Of two choices the one with the lesser rank is the better one."""
    # No two copies share a new cell, and what no copy has is sent by every choice:
    # so the cells of those left out tell which choice sends less.
    return (cells_with(copies, choice, LEFT_OUT), cells_with(copies, choice, ASIDE), choice)


def best_choice(copies, fitting, room):
    # To leave out all may always be made, so there is a best choice.
    best = [LEFT_OUT for i in range(len(copies))]
    least = rank(copies, best)
    for choice in choices_for(fitting):
        ranked = rank(copies, choice)
        if ranked < least and may_be_made(copies, choice, room):
            best = choice
            least = ranked
    return best


def sent_cells(copies, choice, new_count):
    """The new cells, rising, that only copies left out have, or none."""
    made = [copies[i] for i in range(len(copies)) if choice[i] != LEFT_OUT]
    return [t for t in range(new_count) if not has_new_cell(made, t)]
