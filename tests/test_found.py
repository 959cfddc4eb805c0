import unittest

from helper import last, rows, run, seen


def found(old, wanted):
    return last(*rows(old, wanted, 0), ("found",))


class Found(unittest.TestCase):
    def test_all_stays(self):
        self.assertEqual(found([1, 2, 3, 4], [1, 2, 3, 4]), [1, 0, 0, 4])

    def test_all_moves_by_one(self):
        self.assertEqual(found([1, 2, 3, 4], [9, 1, 2, 3, 4]), [1, 0, 1, 4])
        self.assertEqual(found([9, 1, 2, 3, 4], [1, 2, 3, 4]), [1, 1, 0, 4])

    def test_two_stretches_exchanged(self):
        self.assertEqual(found([1, 2, 3, 4, 5], [4, 5, 1, 2, 3]), [2, 3, 0, 2, 0, 2, 3])

    def test_nothing(self):
        self.assertEqual(found([1, 2, 3], [4, 5, 6]), [0])

    def test_one_cell_is_not_enough(self):
        self.assertEqual(found([1, 2, 3], [3, 2, 1]), [0])
        self.assertEqual(found([1], [1]), [0])

    def test_two_cells_are(self):
        self.assertEqual(found([1, 2, 3], [9, 2, 3]), [1, 1, 1, 2])

    def test_the_longest(self):
        self.assertEqual(found([1, 2, 8, 1, 2, 3], [1, 2, 3]), [1, 3, 0, 3])
        self.assertEqual(found([1, 2, 3, 8, 1, 2], [1, 2, 3]), [1, 0, 0, 3])

    def test_of_like_long_ones_the_first(self):
        self.assertEqual(found([7, 1, 2, 1, 2], [1, 2]), [1, 1, 0, 2])

    def test_on_behind_it(self):
        self.assertEqual(found([1, 2, 3, 4], [1, 2, 2, 3, 4]), [2, 0, 0, 2, 1, 2, 3])

    def test_the_longest_from_there_even_if_a_longer_one_begins_within(self):
        self.assertEqual(found([1, 2, 9, 2, 3, 4], [1, 2, 3, 4]), [2, 0, 0, 2, 4, 2, 2])

    def test_on_at_the_next_cell(self):
        self.assertEqual(found([1, 2, 3], [2, 1, 2, 3]), [1, 0, 1, 3])

    def test_the_new_one_longer_than_the_old(self):
        self.assertEqual(found([1, 2], [1, 2, 1, 2, 1]), [2, 0, 0, 2, 0, 2, 2])

    def test_the_old_one_longer_than_the_new(self):
        self.assertEqual(found([1, 2, 3, 4, 5], [4, 5]), [1, 3, 0, 2])

    def test_cells_behind_the_old_ones_are_not_read(self):
        self.assertEqual(found([1, 2], [2, 0, 0]), [0])
        self.assertEqual(found([0, 0], [0, 0, 0]), [1, 0, 0, 2])

    def test_sixteen(self):
        self.assertEqual(last(("begin", 16, 16, 0), ("found",)), [1, 0, 0, 16])

    def test_the_first_seven_of_eight(self):
        self.assertEqual(found([1, 2], [1, 2] * 8), [7, 0, 0, 2, 0, 2, 2, 0, 4, 2, 0, 6, 2, 0, 8, 2, 0, 10, 2, 0, 12, 2])

    def test_the_copies_that_are_told_do_not_matter(self):
        before = rows([1, 2, 3], [9, 2, 3], 0)
        self.assertEqual(last(*before, ("copy", 0, 1, 1), ("found",)), [1, 1, 1, 2])

    def test_it_takes_nothing(self):
        self.assertEqual(run(*rows([1, 2], [1, 2], 0), ("found",), ("choice",))[-2:], [[1, 0, 0, 2], [0]])


class Take(unittest.TestCase):
    def test_how_many(self):
        self.assertEqual(last(*rows([1, 2, 3], [4, 5, 6], 0), ("take",)), [0])
        self.assertEqual(last(*rows([1, 2, 3, 4], [3, 4, 1, 2], 0), ("take",)), [2])
        self.assertEqual(last(*rows([1, 2], [1, 2] * 8, 0), ("take",)), [7])

    def test_these_are_the_copies_now(self):
        before = rows([1, 2, 3, 4], [3, 4, 1, 2], 2)
        self.assertEqual(seen([*before, ("take",)]), seen([*before, ("copy", 2, 0, 2), ("copy", 0, 2, 2)]))

    def test_and_no_others(self):
        before = rows([1, 2, 3, 4], [3, 4, 1, 2], 2)
        told = [("copy", 0, 0, 1), ("copy", 0, 1, 1), ("copy", 0, 3, 1)]
        self.assertEqual(seen([*before, *told, ("take",)]), seen([*before, ("take",)]))

    def test_none_found_leaves_none(self):
        before = rows([1, 2], [2, 1], 0)
        self.assertEqual(run(*before, ("copy", 0, 1, 1), ("take",), ("choice",))[-2:], [[0], [0]])

    def test_twice(self):
        before = rows([1, 2, 3, 4], [3, 4, 1, 2], 2)
        self.assertEqual(seen([*before, ("take",), ("take",)]), seen([*before, ("take",)]))

    def test_they_are_dropped_and_told_as_others(self):
        before = [*rows([1, 2, 3, 4], [3, 4, 1, 2], 2), ("take",)]
        self.assertEqual(run(*before, ("copy", 0, 0, 1), ("drop", 0), ("copy", 0, 0, 1), ("choice",))[-4:],
                         [[-17], [1], [0], [2, 0, 2]])

    def test_an_eighth_behind_seven_taken(self):
        before = [*rows([1, 2], [1, 2] * 8, 0), ("take",)]
        self.assertEqual(run(*before, ("copy", 0, 14, 2), ("drop", 6), ("copy", 0, 14, 2))[-3:], [[-28], [6], [1]])


if __name__ == "__main__":
    unittest.main()
