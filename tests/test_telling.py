import unittest

from helper import EDGES, last, rows, run, seen


def longest(old, wanted):
    """What longest answers for each new cell."""
    return [last(*rows(old, wanted, 0), ("longest", t)) for t in range(len(wanted))]


class Longest(unittest.TestCase):
    def test_how_many_and_then_from_which(self):
        self.assertEqual(longest([1, 2, 3, 1, 2, 9], [1, 2, 3, 9, 7]), [[3, 0], [2, 1], [1, 2], [1, 5], [0, 0]])

    def test_of_like_long_ones_the_first(self):
        self.assertEqual(longest([7, 1, 2, 1, 2], [1, 2]), [[2, 1], [1, 2]])

    def test_a_longer_one_behind_a_shorter(self):
        self.assertEqual(longest([1, 9, 1, 2], [1, 2]), [[2, 2], [1, 3]])

    def test_a_shorter_one_behind_a_longer(self):
        self.assertEqual(longest([9, 1, 2, 1], [1, 2]), [[2, 1], [1, 2]])

    def test_none(self):
        self.assertEqual(longest([1, 2], [3, 4, 5]), [[0, 0]] * 3)

    def test_all_stays(self):
        self.assertEqual(longest([1, 2, 3], [1, 2, 3]), [[3, 0], [2, 1], [1, 2]])

    def test_all_moves_by_one(self):
        self.assertEqual(longest([1, 2, 3], [9, 1, 2, 3]), [[0, 0], [3, 0], [2, 1], [1, 2]])
        self.assertEqual(longest([9, 1, 2, 3], [1, 2, 3]), [[3, 1], [2, 2], [1, 3]])

    def test_cells_behind_the_old_ones_do_not_count(self):
        self.assertEqual(longest([5], [5, 0, 0]), [[1, 0], [0, 0], [0, 0]])

    def test_the_new_one_longer_than_the_old(self):
        self.assertEqual(longest([1, 2], [1, 2, 1, 2]), [[2, 0], [1, 1], [2, 0], [1, 1]])

    def test_the_old_one_longer_than_the_new(self):
        self.assertEqual(longest([1, 2, 3, 4], [3, 4]), [[2, 2], [1, 3]])

    def test_sixteen(self):
        self.assertEqual([last(("begin", 16, 16, 0), ("longest", t)) for t in (0, 1, 15)], [[16, 0], [15, 0], [1, 0]])

    def test_copies_do_not_matter(self):
        before = [*rows([1, 2, 3], [2, 3, 1], 0), ("copy", 0, 0, 2), ("copy", 0, 2, 1)]
        self.assertEqual(run(*before, ("longest", 0), ("longest", 2))[-2:], [[2, 1], [1, 0]])

    def test_edges(self):
        for t in EDGES:
            self.assertEqual(last(("begin", 16, 2, 0), ("longest", t)), [2 - t, 0] if t < 2 else [-2], t)
            self.assertEqual(last(("begin", 1, 16, 0), ("longest", t)), [1, 0] if t < 16 else [-2], t)


class Told(unittest.TestCase):
    before = [*rows([1, 2, 3, 4], [3, 4, 1, 2], 0), ("copy", 2, 0, 2), ("copy", 0, 3, 1), ("copy", 3, 2, 1)]

    def test_as_told(self):
        self.assertEqual(run(*self.before, ("told", 0), ("told", 1), ("told", 2))[-3:], [[2, 0, 2], [0, 3, 1], [3, 2, 1]])

    def test_behind_a_drop(self):
        self.assertEqual(run(*self.before, ("drop", 0), ("told", 0), ("told", 1), ("told", 2))[-3:],
                         [[0, 3, 1], [3, 2, 1], [-2]])

    def test_behind_a_copy_that_is_refused(self):
        self.assertEqual(run(*self.before, ("copy", 0, 2, 2), ("told", 2), ("told", 3))[-3:], [[-17], [3, 2, 1], [-2]])

    def test_those_that_are_taken(self):
        self.assertEqual(run(*self.before, ("take",), ("told", 0), ("told", 1), ("told", 2))[-4:],
                         [[2], [2, 0, 2], [0, 2, 2], [-2]])

    def test_one_of_sixteen_cells(self):
        self.assertEqual(last(("begin", 16, 16, 0), ("copy", 0, 0, 16), ("told", 0)), [0, 0, 16])

    def test_the_seventh(self):
        seven = [("copy", 15 - i, i + 9, 1) for i in range(7)]
        self.assertEqual(run(("begin", 16, 16, 0), *seven, ("told", 6), ("told", 7))[-2:], [[9, 15, 1], [-2]])

    def test_edges(self):
        for i in EDGES:
            self.assertEqual(len(last(*self.before, ("told", i))), 3 if i < 3 else 1, i)
        for i in EDGES:
            self.assertEqual(last(("begin", 16, 16, 16), ("told", i)), [-2], i)


class Rows(unittest.TestCase):
    def test_each_0_at_the_beginning(self):
        self.assertEqual(last(("begin", 3, 5, 0), ("rows",)), [3, 0, 0, 0, 5, 0, 0, 0, 0, 0])
        self.assertEqual(last(("begin", 1, 1, 0), ("rows",)), [1, 0, 1, 0])
        self.assertEqual(last(("begin", 16, 16, 0), ("rows",)), [16, *[0] * 16, 16, *[0] * 16])

    def test_what_they_hold_and_what_is_wanted(self):
        self.assertEqual(last(*rows([1, 2, 3], [999, 5], 0), ("rows",)), [3, 1, 2, 3, 2, 999, 5])

    def test_what_is_put_there_later(self):
        self.assertEqual(run(*rows([1, 2], [3], 0), ("old", 1, 9), ("rows",), ("want", 0, 8), ("rows",))[-3:],
                         [[2, 1, 9, 1, 3], [3], [2, 1, 9, 1, 8]])

    def test_what_is_refused_is_not_there(self):
        self.assertEqual(run(*rows([1, 2], [3], 0), ("old", 1, 1000), ("want", 1, 8), ("begin", 9, 9, 17), ("rows",))[-1],
                         [2, 1, 2, 1, 3])

    def test_copies_do_not_matter(self):
        self.assertEqual(last(*rows([1, 2], [2, 1], 0), ("copy", 0, 1, 1), ("take",), ("done",), ("rows",)), [2, 1, 2, 2, 2, 1])


class AskingChangesNothing(unittest.TestCase):
    before = [*rows([1, 2, 3, 4], [3, 4, 1, 2], 1), ("copy", 0, 2, 2), ("copy", 2, 0, 1), ("copy", 0, 1, 1)]
    plain = ("found", "ring", "best", "choice", "order", "sent", "done", "careless", "leastroom", "rows")
    numbered = ("fits", "ahead", "ifroom", "without", "longest", "told")

    def test_each_that_asks(self):
        expected = seen(self.before)
        for name in self.plain:
            self.assertEqual(seen([*self.before, (name,)]), expected, name)
        for name in self.numbered:
            for number in (0, 1, 2, 3, 16, 17, 4294967295):
                self.assertEqual(seen([*self.before, (name, number)]), expected, (name, number))

    def test_all_that_ask_one_behind_another(self):
        asked = [(name,) for name in self.plain] + [(name, 2) for name in self.numbered]
        given = run(*self.before, *asked, *asked)[len(self.before):]
        self.assertEqual(given[:len(asked)], given[len(asked):])
        self.assertEqual(given[:len(asked)], [last(*self.before, call) for call in asked])


if __name__ == "__main__":
    unittest.main()
