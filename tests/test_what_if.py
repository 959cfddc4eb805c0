import unittest

from helper import EDGES, last, rows, run, seen

EXCHANGE = [*rows([1, 2, 3, 4, 5], [4, 5, 1, 2, 3], 1), ("copy", 0, 2, 3), ("copy", 3, 0, 2)]
# The first copy stands in a ring with each of the two others.
TWO_RINGS = [*rows([1, 2, 3, 4], [3, 4, 1, 2], 0), ("copy", 2, 0, 2), ("copy", 0, 2, 1), ("copy", 1, 3, 1)]
OLD = list(range(1, 17))
HALVES = [*rows(OLD, OLD[8:] + OLD[:8], 0), ("copy", 8, 0, 8), ("copy", 0, 8, 8)]
# Three rings: of two, two and three copies.
SEVEN = [*rows([1, 2, 3, 4, 5, 6, 7], [2, 1, 4, 3, 7, 5, 6], 0), ("copy", 1, 0, 1), ("copy", 0, 1, 1), ("copy", 3, 2, 1),
         ("copy", 2, 3, 1), ("copy", 6, 4, 1), ("copy", 4, 5, 1), ("copy", 5, 6, 1)]


def each_room(before):
    """What ifroom answers for 0 to 16."""
    return [last(*before, ("ifroom", s))[0] for s in range(17)]


class IfRoom(unittest.TestCase):
    def test_how_many_would_be_sent(self):
        self.assertEqual(each_room(EXCHANGE), [2, 2] + [0] * 15)
        self.assertEqual(each_room(TWO_RINGS), [2, 1] + [0] * 15)
        self.assertEqual(each_room(HALVES), [8] * 8 + [0] * 9)
        self.assertEqual(each_room(SEVEN), [3, 2, 1] + [0] * 14)

    def test_the_room_that_there_is_does_not_matter(self):
        for s in (0, 2, 16):
            self.assertEqual(each_room([*EXCHANGE, ("room", s)]), [2, 2] + [0] * 15)

    def test_what_no_copy_has_is_sent_with_any_room(self):
        self.assertEqual(each_room(rows([1, 2], [1, 2, 3], 0)), [3] * 17)
        self.assertEqual(each_room([*rows([1, 2], [1, 2, 3], 0), ("copy", 0, 0, 2)]), [1] * 17)

    def test_a_copy_that_does_not_fit_is_left_out_with_any_room(self):
        self.assertEqual(each_room([*EXCHANGE, ("old", 0, 9)]), [3] * 17)

    def test_edges(self):
        for s in EDGES:
            self.assertEqual(last(*EXCHANGE, ("ifroom", s)), [-22] if s > 16 else [2 if s < 2 else 0], s)

    def test_room_is_as_it_was(self):
        self.assertEqual(run(*EXCHANGE, ("ifroom", 16), ("best",), ("ifroom", 17), ("room", 0))[-4:], [[0], [2, 0], [-22], [1]])


class LeastRoom(unittest.TestCase):
    def test_the_least(self):
        self.assertEqual(last(*EXCHANGE, ("leastroom",)), [2])
        self.assertEqual(last(*TWO_RINGS, ("leastroom",)), [2])
        self.assertEqual(last(*HALVES, ("leastroom",)), [8])
        self.assertEqual(last(*SEVEN, ("leastroom",)), [3])

    def test_a_ring_of_three(self):
        before = [*rows([1, 2, 3, 4, 5, 6], [6, 1, 2, 3, 4, 5], 0), ("copy", 0, 1, 3), ("copy", 3, 4, 2), ("copy", 5, 0, 1)]
        self.assertEqual(last(*before, ("leastroom",)), [1])

    def test_the_room_that_there_is_does_not_matter(self):
        for s in (0, 1, 2, 3, 16):
            self.assertEqual(last(*EXCHANGE, ("room", s), ("leastroom",)), [2], s)

    def test_none_is_needed(self):
        self.assertEqual(last(("begin", 16, 16, 16), ("leastroom",)), [0])
        self.assertEqual(last(*rows([1, 2, 3], [9, 1, 2, 3], 16), ("copy", 0, 1, 3), ("leastroom",)), [0])
        self.assertEqual(last(*rows([1, 2, 3], [1, 2, 3], 16), ("copy", 0, 0, 3), ("leastroom",)), [0])

    def test_a_copy_that_does_not_fit_needs_none(self):
        self.assertEqual(last(*EXCHANGE, ("want", 0, 9), ("leastroom",)), [0])
        self.assertEqual(last(*SEVEN, ("want", 0, 9), ("leastroom",)), [2])

    def test_one_copy_in_two_rings(self):
        before = [*rows([1, 2, 3, 4, 5, 6], [3, 4, 1, 2, 6, 6], 0), ("copy", 0, 2, 2), ("copy", 2, 0, 1), ("copy", 3, 1, 1)]
        self.assertEqual(last(*before, ("leastroom",)), [2])

    def test_room_is_as_it_was(self):
        self.assertEqual(run(*EXCHANGE, ("leastroom",), ("best",), ("room", 0))[-3:], [[2], [2, 0], [1]])


class Without(unittest.TestCase):
    before = [*rows([1, 2, 3], [2, 1, 3], 0), ("copy", 0, 1, 1), ("copy", 1, 0, 1), ("copy", 2, 2, 1)]

    def each(self, *calls):
        return [last(*calls, ("without", i))[0] for i in range(4)]

    def test_how_many_would_be_sent(self):
        self.assertEqual(self.each(*self.before), [1, 1, 2, -2])
        self.assertEqual(self.each(*self.before, ("room", 1)), [1, 1, 1, -2])
        self.assertEqual(self.each(*TWO_RINGS), [2, 2, 2, -2])
        self.assertEqual(self.each(*EXCHANGE), [3, 2, -2, -2])

    def test_a_copy_that_does_not_fit_is_not_missed(self):
        self.assertEqual(self.each(*self.before, ("want", 2, 9)), [2, 2, 2, -2])
        self.assertEqual(self.each(*self.before, ("want", 0, 9)), [2, 1, 2, -2])

    def test_one_of_seven(self):
        self.assertEqual([last(*SEVEN, ("without", i)) for i in range(8)], [[3]] * 7 + [[-2]])
        self.assertEqual([last(*SEVEN, ("room", 3), ("without", i)) for i in range(8)], [[1]] * 7 + [[-2]])

    def test_the_only_one(self):
        self.assertEqual(last(*rows([1, 2], [1, 2], 0), ("copy", 0, 0, 2), ("without", 0)), [2])

    def test_edges(self):
        for i in EDGES:
            self.assertEqual(last(*self.before, ("without", i))[0] == -2, i > 2, i)
        self.assertEqual(last(("begin", 16, 16, 16), ("without", 0)), [-2])

    def test_as_if_it_were_dropped(self):
        for i in range(7):
            for s in range(4):
                before = [*SEVEN, ("room", s)]
                self.assertEqual(last(*before, ("without", i)), last(*before, ("drop", i), ("best",))[:1])

    def test_the_copies_are_as_they_were(self):
        self.assertEqual(run(*self.before, ("without", 0), ("told", 0), ("told", 2), ("best",))[-3:],
                         [[0, 1, 1], [2, 2, 1], [1, 0]])


class Room(unittest.TestCase):
    def test_what_it_was(self):
        self.assertEqual(run(("begin", 1, 1, 3), ("room", 5), ("room", 0), ("room", 16), ("room", 1), ("room", 1))[1:],
                         [[3], [5], [0], [16], [1]])

    def test_there_is_room_for_so_many_now(self):
        self.assertEqual(run(*EXCHANGE, ("best",), ("room", 2), ("best",), ("choice",), ("room", 0), ("best",))[-6:],
                         [[2, 0], [1], [0, 2], [2, 0, 1], [2], [2, 0]])

    def test_edges(self):
        for s in EDGES:
            answer, after = run(("begin", 1, 1, 7), ("room", s), ("room", 0))[1:]
            self.assertEqual((answer, after), ([7], [s]) if s <= 16 else ([-22], [7]), s)

    def test_all_else_stays(self):
        self.assertEqual(seen([*EXCHANGE, ("room", 9), ("room", 1)]), seen(EXCHANGE))
        self.assertEqual(seen([*EXCHANGE, ("room", 4)]), seen([("begin", 5, 5, 4), *EXCHANGE[1:]]))

    def test_a_refusal_changes_nothing(self):
        for s in (17, 999, 4294967295):
            self.assertEqual(last(*EXCHANGE, ("room", s)), [-22])
            self.assertEqual(seen([*EXCHANGE, ("room", s)]), seen(EXCHANGE))

    def test_a_begin_makes_it_anew(self):
        self.assertEqual(run(*EXCHANGE, ("room", 9), ("begin", 1, 1, 17), ("room", 8), ("begin", 1, 1, 2), ("room", 0))[-5:],
                         [[1], [-22], [9], [0], [2]])


if __name__ == "__main__":
    unittest.main()
