import unittest

from helper import ARITY, EDGES, NAMES, last, rows, run, seen


class Begin(unittest.TestCase):
    def test_it_is_answered_0(self):
        self.assertEqual(run(("begin", 4, 5, 3)), [[0]])

    def test_edges_of_the_old_cells(self):
        for n in EDGES:
            expected = [0] if 1 <= n <= 16 else [-22]
            self.assertEqual(last(("begin", n, 4, 0)), expected, n)

    def test_edges_of_the_new_cells(self):
        for m in EDGES:
            expected = [0] if 1 <= m <= 16 else [-22]
            self.assertEqual(last(("begin", 4, m, 0)), expected, m)

    def test_edges_of_the_room(self):
        for s in EDGES:
            expected = [0] if s <= 16 else [-22]
            self.assertEqual(last(("begin", 4, 4, s)), expected, s)

    def test_so_many_cells_and_each_0(self):
        calls = [("begin", 3, 5, 0)]
        olds = [last(*calls, ("old", i, 7)) for i in range(7)]
        wants = [last(*calls, ("want", i, 7)) for i in range(7)]
        self.assertEqual(olds, [[0]] * 3 + [[-2]] * 4)
        self.assertEqual(wants, [[0]] * 5 + [[-2]] * 2)

    def test_all_sixteen_cells(self):
        self.assertEqual(run(("begin", 16, 16, 16), ("old", 15, 1), ("want", 15, 1), ("old", 16, 1), ("want", 16, 1)),
                         [[0], [0], [0], [-2], [-2]])

    def test_no_copies(self):
        self.assertEqual(run(("begin", 4, 4, 0), ("choice",), ("fits", 0), ("best",), ("ring",)),
                         [[0], [0], [-2], [4, 0], [0]])


class BeforeTheBegin(unittest.TestCase):
    def any_call(self, name, number):
        return (name, *[number] * ARITY[name])

    def test_all_else_is_refused(self):
        for name in NAMES[1:]:
            for number in (0, 1, 17, 1000, 4294967295):
                self.assertEqual(run(self.any_call(name, number)), [[-11]], name)

    def test_behind_a_begin_that_was_refused(self):
        for refused in (("begin", 0, 4, 0), ("begin", 4, 17, 0), ("begin", 4, 4, 17)):
            for name in NAMES[1:]:
                self.assertEqual(run(refused, self.any_call(name, 0)), [[-22], [-11]], name)

    def test_the_calls_that_were_refused_leave_nothing(self):
        ahead = [self.any_call(name, 1) for name in NAMES[1:]]
        begin = ("begin", 4, 4, 2)
        self.assertEqual(seen([*ahead, begin]), seen([begin]))

    def test_a_begin_behind_refusals(self):
        self.assertEqual(run(("begin", 17, 1, 0), ("ring",), ("begin", 1, 1, 0), ("ring",)),
                         [[-22], [-11], [0], [0]])


class BeginAgain(unittest.TestCase):
    before = [*rows([1, 2, 3, 4], [3, 4, 1, 2], 2), ("copy", 0, 2, 2), ("copy", 2, 0, 2)]

    def test_all_is_new(self):
        for begin in (("begin", 4, 4, 0), ("begin", 2, 6, 16), ("begin", 16, 1, 1)):
            self.assertEqual(last(*self.before, begin), [0])
            self.assertEqual(seen([*self.before, begin]), seen([begin]))

    def test_the_room_is_new(self):
        again = [("old", 0, 1), ("old", 1, 2), ("want", 0, 2), ("want", 1, 1), ("copy", 0, 1, 1), ("copy", 1, 0, 1)]
        self.assertEqual(last(*self.before, ("begin", 2, 2, 0), *again, ("best",)), [1, 0])
        self.assertEqual(last(*self.before, ("begin", 2, 2, 1), *again, ("best",)), [0, 1])

    def test_all_stays_if_it_is_refused(self):
        for place in range(3):
            for number in (0, 17, 999, 1000, 4294967295):
                begin = ["begin", 3, 3, 1]
                begin[1 + place] = number
                if begin == ["begin", 3, 3, 0]:
                    continue
                self.assertEqual(last(*self.before, tuple(begin)), [-22])
                self.assertEqual(seen([*self.before, tuple(begin)]), seen(self.before), begin)


class BehindTheBegin(unittest.TestCase):
    def test_each_call_is_answered(self):
        for name in NAMES:
            self.assertNotEqual(last(("begin", 1, 1, 0), (name, *[0] * ARITY[name])), [-11], name)


if __name__ == "__main__":
    unittest.main()
