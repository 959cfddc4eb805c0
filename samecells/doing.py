"""What the cells hold when copies are done."""

from samecells.choosing import ASIDE, IN_PLACE, numbers_with, sent_cells
from samecells.copies import has_new_cell, order_of

MOST_CELLS = 16


def all_cells(old):
    """What all cells hold at the beginning, in a list of its own: those behind the old version's hold 0."""
    return old + [0 for i in range(MOST_CELLS - len(old))]


def read_by(copy, cells):
    return cells[copy.source:copy.source + copy.length]


def write_by(copy, cells, numbers):
    for k in range(copy.length):
        cells[copy.target + k] = numbers[k]


def do_in_place(copy, cells):
    # A copy may write cells that it reads itself, so all of them are read first.
    write_by(copy, cells, read_by(copy, cells))


def done_cells(old, wanted, copies, choice):
    """What all cells hold when a choice that may be made is done."""
    cells = all_cells(old)
    aside = [copies[i] for i in numbers_with(choice, ASIDE)]
    kept = [read_by(copy, cells) for copy in aside]
    for i in order_of(copies, numbers_with(choice, IN_PLACE)):
        do_in_place(copies[i], cells)
    for k in range(len(aside)):
        write_by(aside[k], cells, kept[k])
    for t in sent_cells(copies, choice, len(wanted)):
        cells[t] = wanted[t]
    return cells


def careless_cells(old, wanted, copies):
    """The new cells of these copies that don't hold what's wanted if the copies are done one by one as they come."""
    cells = all_cells(old)
    for copy in copies:
        do_in_place(copy, cells)
    return [t for t in range(len(wanted)) if cells[t] != wanted[t] and has_new_cell(copies, t)]
