import unittest

from helper import drawn, last, modelled, rows, run, source


def asked(old, wanted, room, copies):
    """What ring, best and choice are answered."""
    told = [("copy", *copy) for copy in copies]
    return run(*rows(old, wanted, room), *told, ("ring",), ("best",), ("choice",))[-3:]


class Corners(unittest.TestCase):
    def test_all_stays(self):
        self.assertEqual(asked([1, 2, 3], [1, 2, 3], 0, [(0, 0, 3)]), [[0], [0, 0], [1, 0]])
        self.assertEqual(asked([1, 2, 3], [1, 2, 3], 0, [(2, 2, 1), (0, 0, 1), (1, 1, 1)]), [[0], [0, 0], [3, 0, 0, 0]])

    def test_all_moves_up_by_one(self):
        self.assertEqual(asked([1, 2, 3], [9, 1, 2, 3], 0, [(0, 1, 3)]), [[0], [1, 0], [1, 0]])
        self.assertEqual(asked([1, 2, 3], [9, 1, 2, 3], 0, [(0, 1, 1), (1, 2, 1), (2, 3, 1)]), [[0], [1, 0], [3, 0, 0, 0]])

    def test_all_moves_down_by_one(self):
        self.assertEqual(asked([9, 1, 2, 3], [1, 2, 3], 0, [(1, 0, 3)]), [[0], [0, 0], [1, 0]])
        self.assertEqual(asked([9, 1, 2, 3], [1, 2, 3], 0, [(3, 2, 1), (2, 1, 1), (1, 0, 1)]), [[0], [0, 0], [3, 0, 0, 0]])

    def test_two_stretches_exchanged(self):
        old, wanted, copies = [1, 2, 3, 4, 5], [4, 5, 1, 2, 3], [(0, 2, 3), (3, 0, 2)]
        self.assertEqual(asked(old, wanted, 0, copies), [[1], [2, 0], [2, 0, 2]])
        self.assertEqual(asked(old, wanted, 1, copies), [[1], [2, 0], [2, 0, 2]])
        self.assertEqual(asked(old, wanted, 2, copies), [[1], [0, 2], [2, 0, 1]])
        self.assertEqual(asked(old, wanted, 16, copies), [[1], [0, 2], [2, 0, 1]])
        self.assertEqual(asked(old, wanted, 2, copies[::-1]), [[1], [0, 2], [2, 1, 0]])

    def test_a_ring_of_three_with_room_for_the_shortest(self):
        old, wanted, copies = [1, 2, 3, 4, 5, 6], [6, 1, 2, 3, 4, 5], [(0, 1, 3), (3, 4, 2), (5, 0, 1)]
        self.assertEqual(asked(old, wanted, 0, copies), [[1], [1, 0], [3, 0, 0, 2]])
        self.assertEqual(asked(old, wanted, 1, copies), [[1], [0, 1], [3, 0, 0, 1]])
        self.assertEqual(asked(old, wanted, 1, copies[::-1]), [[1], [0, 1], [3, 1, 0, 0]])

    def test_a_copy_of_itself(self):
        self.assertEqual(asked([1, 2], [1, 2], 0, [(0, 0, 2)]), [[0], [0, 0], [1, 0]])

    def test_a_copy_of_itself_that_another_reads(self):
        self.assertEqual(asked([1, 2], [1, 1], 0, [(0, 0, 1), (0, 1, 1)]), [[0], [0, 0], [2, 0, 0]])

    def test_a_copy_that_does_not_fit_any_more(self):
        before = [*rows([1, 2, 3], [2, 3, 1], 3), ("copy", 1, 0, 2), ("copy", 0, 2, 1)]
        self.assertEqual(run(*before, ("best",), ("old", 2, 8), ("ring",), ("best",), ("choice",))[-5:],
                         [[0, 1], [3], [0], [2, 0], [2, 2, 0]])

    def test_none_fits(self):
        self.assertEqual(asked([1, 2], [3, 4], 16, [(0, 1, 1), (1, 0, 1)]), [[0], [2, 0], [2, 2, 2]])

    def test_the_new_one_longer_than_the_old(self):
        self.assertEqual(asked([1, 2], [1, 2, 1, 2, 5], 0, [(0, 0, 2), (0, 2, 2)]), [[0], [1, 0], [2, 0, 0]])

    def test_the_old_one_longer_than_the_new(self):
        self.assertEqual(asked([1, 2, 3, 4], [4, 3], 0, [(3, 0, 1), (2, 1, 1)]), [[0], [0, 0], [2, 0, 0]])

    def test_room_for_nothing_and_for_all(self):
        old = list(range(1, 17))
        wanted = old[8:] + old[:8]
        copies = [(8, 0, 8), (0, 8, 8)]
        self.assertEqual(asked(old, wanted, 0, copies), [[1], [8, 0], [2, 0, 2]])
        self.assertEqual(asked(old, wanted, 7, copies), [[1], [8, 0], [2, 0, 2]])
        self.assertEqual(asked(old, wanted, 8, copies), [[1], [0, 8], [2, 0, 1]])
        self.assertEqual(asked(old, wanted, 16, copies), [[1], [0, 8], [2, 0, 1]])

    def test_no_copies(self):
        self.assertEqual(asked([1, 2], [1, 2], 16, []), [[0], [2, 0], [0]])

    def test_seven_copies_in_one_ring(self):
        old, wanted = list(range(1, 8)), [7, 1, 2, 3, 4, 5, 6]
        copies = [((i - 1) % 7, i, 1) for i in range(7)]
        self.assertEqual(asked(old, wanted, 0, copies), [[1], [1, 0], [7, 0, 0, 0, 0, 0, 0, 2]])
        self.assertEqual(asked(old, wanted, 1, copies), [[1], [0, 1], [7, 0, 0, 0, 0, 0, 0, 1]])

    def test_seven_copies_in_three_rings(self):
        old, wanted = [1, 2, 3, 4, 5, 6, 7], [2, 1, 4, 3, 7, 5, 6]
        copies = [(1, 0, 1), (0, 1, 1), (3, 2, 1), (2, 3, 1), (6, 4, 1), (4, 5, 1), (5, 6, 1)]
        answers = [asked(old, wanted, room, copies)[1:] for room in range(5)]
        self.assertEqual(answers, [
            [[3, 0], [7, 0, 2, 0, 2, 0, 0, 2]],
            [[2, 1], [7, 0, 1, 0, 2, 0, 0, 2]],
            [[1, 2], [7, 0, 1, 0, 1, 0, 0, 2]],
            [[0, 3], [7, 0, 1, 0, 1, 0, 0, 1]],
            [[0, 3], [7, 0, 1, 0, 1, 0, 0, 1]],
        ])


class Ring(unittest.TestCase):
    def test_only_those_that_fit_stand_in_a_ring(self):
        before = [*rows([1, 2], [2, 1], 0), ("copy", 0, 1, 1), ("copy", 1, 0, 1)]
        self.assertEqual(run(*before, ("ring",), ("want", 0, 5), ("ring",), ("want", 0, 2), ("ring",))[-5:],
                         [[1], [2], [0], [5], [1]])

    def test_a_ring_beside_copies_in_none(self):
        self.assertEqual(last(*rows([1, 2, 3, 4], [2, 1, 3, 3], 16), ("copy", 2, 2, 1), ("copy", 0, 1, 1),
                              ("copy", 2, 3, 1), ("copy", 1, 0, 1), ("ring",)), [1])

    def test_room_does_not_undo_it(self):
        self.assertEqual(asked([1, 2], [2, 1], 16, [(0, 1, 1), (1, 0, 1)])[0], [1])


class OfLikeOnes(unittest.TestCase):
    def test_fewest_sent_ahead_of_fewest_kept_aside(self):
        self.assertEqual(asked([1, 2], [2, 1], 1, [(0, 1, 1), (1, 0, 1)])[1:], [[0, 1], [2, 0, 1]])

    def test_fewest_kept_aside_ahead_of_the_lesser_number(self):
        self.assertEqual(asked([1, 2, 3], [3, 1, 2], 16, [(0, 1, 2), (2, 0, 1)])[1:], [[0, 1], [2, 0, 1]])
        self.assertEqual(asked([1, 2, 3], [3, 1, 2], 16, [(2, 0, 1), (0, 1, 2)])[1:], [[0, 1], [2, 1, 0]])

    def test_the_lesser_number_for_the_first_at_which_they_differ(self):
        self.assertEqual(asked([1, 2, 3], [2, 3, 1], 1, [(0, 2, 1), (1, 0, 1), (2, 1, 1)])[2], [3, 0, 0, 1])

    def test_nothing_is_kept_aside_that_need_not_be(self):
        self.assertEqual(asked([1, 2, 3], [1, 3, 9], 16, [(0, 0, 1), (2, 1, 1)])[1:], [[1, 0], [2, 0, 0]])

    def test_a_shorter_one_left_out_and_a_longer_one_that_has_no_room(self):
        # Two exchanges: there is room to break only one of them by keeping, and that should be the longer one.
        old, wanted = [1, 2, 3, 4, 5, 6], [2, 1, 5, 6, 3, 4]
        copies = [(1, 0, 1), (0, 1, 1), (4, 2, 2), (2, 4, 2)]
        self.assertEqual(asked(old, wanted, 2, copies)[1:], [[1, 2], [4, 0, 2, 0, 1]])
        self.assertEqual(asked(old, wanted, 1, copies)[1:], [[2, 1], [4, 0, 1, 0, 2]])


class AgainstAPlainSearch(unittest.TestCase):
    def check(self, calls):
        asked = [("ring",), ("best",), ("choice",)]
        expected = modelled([*calls, *asked])
        self.assertEqual(run(*calls, *asked), expected, calls)
        return expected[-3:]

    def test_many(self):
        chance = source("choices")
        rings = kept = left_out = 0
        for turn in range(400):
            ring, best, choice = self.check(drawn(chance))
            rings += ring[0]
            kept += best[1] > 0
            left_out += 2 in choice[1:]
        self.assertGreater(min(rings, kept, left_out), 50)

    def test_every_exchange_of_four_cells(self):
        places = [(a, b, c, d) for a in range(4) for b in range(4) for c in range(4) for d in range(4)]
        for room in (0, 1, 2):
            for place in places:
                old = [1, 2, 3, 4]
                copies = [("copy", f, t, 1) for t, f in enumerate(place)]
                self.check([*rows(old, [old[f] for f in place], room), *copies])


if __name__ == "__main__":
    unittest.main()
