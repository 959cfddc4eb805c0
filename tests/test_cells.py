import unittest

from helper import EDGES, last, rows, run, seen


class Cells(unittest.TestCase):
    def test_what_it_was(self):
        for name in ("old", "want"):
            self.assertEqual(run(("begin", 2, 2, 0), (name, 0, 5), (name, 1, 6), (name, 0, 7), (name, 0, 0), (name, 1, 1)),
                             [[0], [0], [0], [5], [7], [6]])

    def test_old_and_new_cells_are_apart(self):
        self.assertEqual(run(("begin", 2, 2, 0), ("old", 0, 5), ("want", 0, 6), ("old", 0, 1), ("want", 0, 1)),
                         [[0], [0], [0], [5], [6]])

    def test_edges_of_what_it_holds(self):
        for name in ("old", "want"):
            for v in EDGES:
                answer, after = run(("begin", 2, 2, 0), (name, 1, 3), (name, 1, v), (name, 1, 0))[2:]
                self.assertEqual((answer, after), ([3], [v]) if v <= 999 else ([-22], [3]), (name, v))

    def test_edges_of_the_cell(self):
        for name, cells in (("old", 2), ("want", 3)):
            for i in EDGES:
                self.assertEqual(last(("begin", 2, 3, 0), (name, i, 1)), [0] if i < cells else [-2], (name, i))

    def test_the_sixteenth_cell(self):
        self.assertEqual(run(("begin", 16, 1, 0), ("old", 15, 9), ("old", 16, 9), ("want", 1, 9))[1:], [[0], [-2], [-2]])
        self.assertEqual(run(("begin", 1, 16, 0), ("want", 15, 9), ("want", 16, 9), ("old", 1, 9))[1:], [[0], [-2], [-2]])

    def test_no_such_cell_comes_first(self):
        for name in ("old", "want"):
            self.assertEqual(last(("begin", 2, 2, 0), (name, 2, 1000)), [-2])
            self.assertEqual(last(("begin", 2, 2, 0), (name, 4294967295, 4294967295)), [-2])

    def test_a_refusal_changes_nothing(self):
        before = [*rows([1, 2], [2, 1], 1), ("copy", 0, 1, 1), ("copy", 1, 0, 1)]
        for name in ("old", "want"):
            for i, v in ((2, 5), (2, 1000), (0, 1000), (1, 4294967295), (4294967295, 0)):
                self.assertEqual(seen([*before, (name, i, v)]), seen(before), (name, i, v))


if __name__ == "__main__":
    unittest.main()
