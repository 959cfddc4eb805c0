import unittest

from helper import EDGES, last, rows, run, seen

SEVEN = [("copy", i, i, 1) for i in range(7)]


class TellingCopies(unittest.TestCase):
    def test_1_if_it_fits_else_0(self):
        before = rows([1, 2, 3], [2, 3, 9], 0)
        self.assertEqual(last(*before, ("copy", 1, 0, 2)), [1])
        self.assertEqual(last(*before, ("copy", 0, 0, 2)), [0])
        self.assertEqual(last(*before, ("copy", 1, 0, 1)), [1])

    def test_one_wrong_cell_is_enough(self):
        for wrong in range(4):
            wanted = [1, 2, 3, 4]
            wanted[wrong] = 9
            self.assertEqual(last(*rows([1, 2, 3, 4], wanted, 0), ("copy", 0, 0, 4)), [0], wrong)

    def test_cells_beside_it_do_not_matter(self):
        self.assertEqual(last(*rows([7, 1, 2, 8], [5, 1, 2, 6], 0), ("copy", 1, 1, 2)), [1])

    def test_edges_of_the_cells_that_it_reads(self):
        for f in EDGES:
            self.assertEqual(last(("begin", 4, 16, 0), ("copy", f, 0, 3)), [1] if f + 3 <= 4 else [-22], f)
        self.assertEqual(last(("begin", 4, 16, 0), ("copy", 4, 0, 1)), [-22])
        self.assertEqual(last(("begin", 4, 16, 0), ("copy", 3, 0, 1)), [1])

    def test_edges_of_the_cells_that_it_writes(self):
        for t in EDGES:
            self.assertEqual(last(("begin", 16, 4, 0), ("copy", 0, t, 3)), [1] if t + 3 <= 4 else [-22], t)
        self.assertEqual(last(("begin", 16, 4, 0), ("copy", 0, 4, 1)), [-22])
        self.assertEqual(last(("begin", 16, 4, 0), ("copy", 0, 3, 1)), [1])

    def test_edges_of_how_many(self):
        for n in EDGES:
            self.assertEqual(last(("begin", 16, 16, 0), ("copy", 0, 0, n)), [1] if 1 <= n <= 16 else [-22], n)
            self.assertEqual(last(("begin", 2, 16, 0), ("copy", 0, 0, n)), [1] if 1 <= n <= 2 else [-22], n)
            self.assertEqual(last(("begin", 16, 2, 0), ("copy", 0, 0, n)), [1] if 1 <= n <= 2 else [-22], n)

    def test_another_has_one_of_its_new_cells(self):
        before = [("begin", 16, 16, 0), ("copy", 0, 4, 3)]
        for t, n, expected in ((4, 3, -17), (3, 2, -17), (6, 4, -17), (5, 1, -17), (2, 9, -17), (2, 2, 1), (7, 2, 1)):
            self.assertEqual(last(*before, ("copy", 0, t, n)), [expected], (t, n))

    def test_one_that_does_not_fit_has_its_new_cells_too(self):
        self.assertEqual(run(*rows([1], [2], 0), ("copy", 0, 0, 1), ("copy", 0, 0, 1))[-2:], [[0], [-17]])

    def test_several_may_read_the_same_cell(self):
        self.assertEqual(run(*rows([5, 0], [5, 5], 0), ("copy", 0, 0, 1), ("copy", 0, 1, 1), ("best",))[-3:],
                         [[1], [1], [0, 0]])

    def test_seven_and_an_eighth(self):
        given = run(("begin", 16, 16, 0), *SEVEN, ("copy", 7, 7, 1), ("choice",), ("drop", 3), ("copy", 7, 7, 1))
        self.assertEqual(given[1:8], [[1]] * 7)
        self.assertEqual(given[8:], [[-28], [7] + [0] * 7, [6], [1]])

    def test_the_order_of_the_refusals(self):
        full = [("begin", 16, 16, 0), *SEVEN]
        self.assertEqual(last(*full, ("copy", 0, 0, 0)), [-22])
        self.assertEqual(last(*full, ("copy", 0, 6, 11)), [-22])
        self.assertEqual(last(*full, ("copy", 16, 6, 1)), [-22])
        self.assertEqual(last(*full, ("copy", 0, 6, 2)), [-17])
        self.assertEqual(last(*full, ("copy", 0, 7, 2)), [-28])
        self.assertEqual(last(("begin", 16, 16, 0), ("copy", 0, 0, 1), ("copy", 16, 0, 1)), [-22])

    def test_a_refusal_changes_nothing(self):
        before = [("begin", 16, 16, 0), *SEVEN]
        for refused in ((0, 0, 0), (16, 9, 1), (9, 16, 1), (0, 0, 4294967295), (9, 3, 2), (9, 9, 1)):
            self.assertLess(last(*before, ("copy", *refused))[0], 0)
            self.assertEqual(seen([*before, ("copy", *refused)]), seen(before), refused)


class Dropping(unittest.TestCase):
    before = [*rows([1, 2, 3], [3, 1, 2], 0), ("copy", 0, 1, 1), ("copy", 0, 2, 1), ("copy", 2, 0, 1)]

    def test_how_many_are_left(self):
        self.assertEqual(run(*self.before, ("drop", 0), ("drop", 0), ("drop", 0), ("drop", 0))[-4:], [[2], [1], [0], [-2]])

    def test_those_behind_it_are_numbered_one_less(self):
        self.assertEqual(run(*self.before, ("fits", 0), ("fits", 1), ("fits", 2), ("drop", 1),
                             ("fits", 0), ("fits", 1), ("fits", 2))[-7:], [[1], [0], [1], [2], [1], [1], [-2]])
        self.assertEqual(seen([*self.before, ("drop", 0)]), seen([*self.before[:-3], *self.before[-2:]]))

    def test_its_new_cells_are_free_again(self):
        self.assertEqual(run(*self.before, ("drop", 1), ("copy", 1, 2, 1), ("fits", 2))[-3:], [[2], [1], [1]])

    def test_edges(self):
        for i in EDGES:
            self.assertEqual(last(*self.before, ("drop", i)), [2] if i < 3 else [-2], i)

    def test_a_refusal_changes_nothing(self):
        for i in (3, 17, 4294967295):
            self.assertEqual(seen([*self.before, ("drop", i)]), seen(self.before))


class Fits(unittest.TestCase):
    before = [*rows([1, 2, 3], [2, 3, 9], 0), ("copy", 1, 0, 2), ("copy", 0, 2, 1)]

    def test_it_does_or_not(self):
        self.assertEqual(run(*self.before, ("fits", 0), ("fits", 1))[-2:], [[1], [0]])

    def test_no_such_copy(self):
        for i in EDGES[2:]:
            self.assertEqual(last(*self.before, ("fits", i)), [-2])

    def test_a_copy_that_does_not_fit_any_more(self):
        self.assertEqual(run(*self.before, ("old", 2, 4), ("fits", 0), ("want", 1, 4), ("fits", 0),
                             ("want", 0, 5), ("fits", 0))[-6:], [[3], [0], [3], [1], [2], [0]])

    def test_one_that_fits_only_now(self):
        self.assertEqual(run(*self.before, ("want", 2, 1), ("fits", 1))[-1], [1])


class Ahead(unittest.TestCase):
    def test_that_one_reads_what_it_writes(self):
        before = [("begin", 8, 8, 0), ("copy", 0, 2, 2), ("copy", 2, 6, 2), ("copy", 3, 4, 1), ("copy", 4, 5, 1)]
        self.assertEqual([last(*before, ("ahead", i)) for i in range(4)], [[2, 1, 2], [0], [1, 3], [0]])

    def test_touching_is_not_enough(self):
        before = [("begin", 6, 6, 0), ("copy", 2, 4, 2), ("copy", 0, 2, 1), ("copy", 1, 0, 1), ("copy", 3, 1, 1)]
        self.assertEqual([last(*before, ("ahead", i)) for i in range(4)], [[0], [1, 0], [1, 1], [1, 2]])

    def test_fitting_or_not(self):
        before = [*rows([1, 2], [7, 8], 0), ("copy", 0, 1, 1), ("copy", 1, 0, 1)]
        self.assertEqual(run(*before, ("fits", 0), ("ahead", 0), ("ahead", 1))[-3:], [[0], [1, 1], [1, 0]])

    def test_never_of_itself(self):
        for copy in ((0, 0, 4), (0, 1, 4), (1, 0, 4)):
            self.assertEqual(last(("begin", 5, 5, 0), ("copy", *copy), ("ahead", 0)), [0])

    def test_six_rising(self):
        before = [("begin", 8, 8, 0), *[("copy", 7, t, 1) for t in (6, 5, 4)], ("copy", 0, 7, 1),
                  *[("copy", 7, t, 1) for t in (0, 2, 1)]]
        self.assertEqual(last(*before, ("ahead", 3)), [6, 0, 1, 2, 4, 5, 6])

    def test_no_such_copy(self):
        for i in EDGES[1:]:
            self.assertEqual(last(("begin", 2, 2, 0), ("copy", 0, 0, 1), ("ahead", i)), [-2])
        self.assertEqual(last(("begin", 2, 2, 0), ("ahead", 0)), [-2])


if __name__ == "__main__":
    unittest.main()
