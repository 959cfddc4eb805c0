import unittest

from helper import last, rows, run

EXCHANGED = ([1, 2, 3, 4, 5], [4, 5, 1, 2, 3])
EXCHANGE = [(0, 2, 3), (3, 0, 2)]


def told(old, wanted, room, copies):
    return [*rows(old, wanted, room), *[("copy", *copy) for copy in copies]]


def made(old, wanted, room, copies):
    """What order, sent and careless are answered, and what done is, without the cells at the end that hold 0."""
    order, sent, careless, done = run(*told(old, wanted, room, copies),
                                      ("order",), ("sent",), ("careless",), ("done",))[-4:]
    assert len(done) == 17 and done[0] == 16
    held = done[1:]
    while held and held[-1] == 0:
        held.pop()
    return [order, sent, careless, held]


class Corners(unittest.TestCase):
    def test_all_stays(self):
        self.assertEqual(made([1, 2, 3], [1, 2, 3], 0, [(0, 0, 3)]), [[1, 0], [0], [0], [1, 2, 3]])
        self.assertEqual(made([1, 2, 3], [1, 2, 3], 0, [(2, 2, 1), (0, 0, 1), (1, 1, 1)]),
                         [[3, 0, 1, 2], [0], [0], [1, 2, 3]])

    def test_all_moves_up_by_one(self):
        self.assertEqual(made([1, 2, 3], [9, 1, 2, 3], 0, [(0, 1, 3)]), [[1, 0], [1, 0], [0], [9, 1, 2, 3]])
        self.assertEqual(made([1, 2, 3], [9, 1, 2, 3], 0, [(0, 1, 1), (1, 2, 1), (2, 3, 1)]),
                         [[3, 2, 1, 0], [1, 0], [2, 2, 3], [9, 1, 2, 3]])
        self.assertEqual(made([1, 2, 3], [9, 1, 2, 3], 0, [(2, 3, 1), (1, 2, 1), (0, 1, 1)]),
                         [[3, 0, 1, 2], [1, 0], [0], [9, 1, 2, 3]])

    def test_all_moves_down_by_one(self):
        self.assertEqual(made([9, 1, 2, 3], [1, 2, 3], 0, [(1, 0, 3)]), [[1, 0], [0], [0], [1, 2, 3, 3]])
        self.assertEqual(made([9, 1, 2, 3], [1, 2, 3], 0, [(3, 2, 1), (2, 1, 1), (1, 0, 1)]),
                         [[3, 2, 1, 0], [0], [2, 0, 1], [1, 2, 3, 3]])

    def test_two_stretches_exchanged(self):
        self.assertEqual(made(*EXCHANGED, 0, EXCHANGE), [[1, 0], [2, 0, 1], [2, 0, 1], [4, 5, 1, 2, 3]])
        self.assertEqual(made(*EXCHANGED, 2, EXCHANGE), [[1, 0], [0], [2, 0, 1], [4, 5, 1, 2, 3]])
        self.assertEqual(made(*EXCHANGED, 0, EXCHANGE[::-1]), [[1, 1], [2, 0, 1], [2, 2, 3], [4, 5, 1, 2, 3]])

    def test_a_ring_of_three_with_room_for_the_shortest(self):
        old, wanted, copies = [1, 2, 3, 4, 5, 6], [6, 1, 2, 3, 4, 5], [(0, 1, 3), (3, 4, 2), (5, 0, 1)]
        self.assertEqual(made(old, wanted, 1, copies), [[2, 1, 0], [0], [2, 0, 4], wanted])
        self.assertEqual(made(old, wanted, 0, copies), [[2, 1, 0], [1, 0], [2, 0, 4], wanted])

    def test_a_copy_of_itself(self):
        self.assertEqual(made([1, 2], [1, 2], 0, [(0, 0, 2)]), [[1, 0], [0], [0], [1, 2]])
        self.assertEqual(made([1, 2], [1, 1], 0, [(0, 0, 1), (0, 1, 1)]), [[2, 1, 0], [0], [0], [1, 1]])

    def test_a_copy_that_does_not_fit_any_more(self):
        before = told([1, 2, 3], [2, 3, 1], 3, [(1, 0, 2), (0, 2, 1)])
        self.assertEqual(run(*before, ("old", 2, 8), ("order",), ("sent",), ("careless",), ("done",))[-4:],
                         [[1, 1], [2, 0, 1], [0], [16, 2, 3, 1] + [0] * 13])

    def test_none_fits(self):
        self.assertEqual(made([1, 2], [3, 4], 16, [(0, 1, 1), (1, 0, 1)]), [[0], [2, 0, 1], [0], [3, 4]])

    def test_the_new_one_longer_than_the_old(self):
        self.assertEqual(made([1, 2], [1, 2, 1, 2, 5], 0, [(0, 0, 2), (0, 2, 2)]),
                         [[2, 1, 0], [1, 4], [0], [1, 2, 1, 2, 5]])

    def test_the_old_one_longer_than_the_new(self):
        self.assertEqual(made([1, 2, 3, 4], [4, 3], 0, [(3, 0, 1), (2, 1, 1)]), [[2, 0, 1], [0], [0], [4, 3, 3, 4]])
        self.assertEqual(made([1, 2, 3, 4], [7], 16, []), [[0], [1, 0], [0], [7, 2, 3, 4]])

    def test_room_for_nothing_and_for_all(self):
        old = list(range(1, 17))
        wanted = old[8:] + old[:8]
        copies = [(8, 0, 8), (0, 8, 8)]
        self.assertEqual(made(old, wanted, 0, copies), [[1, 0], [8, *range(8, 16)], [8, *range(8, 16)], wanted])
        self.assertEqual(made(old, wanted, 16, copies), [[1, 0], [0], [8, *range(8, 16)], wanted])

    def test_seven_copies_in_one_ring(self):
        old, wanted = list(range(1, 8)), [7, 1, 2, 3, 4, 5, 6]
        copies = [((i - 1) % 7, i, 1) for i in range(7)]
        self.assertEqual(made(old, wanted, 0, copies),
                         [[6, 5, 4, 3, 2, 1, 0], [1, 6], [6, 1, 2, 3, 4, 5, 6], wanted])
        self.assertEqual(made(old, wanted, 1, copies),
                         [[6, 5, 4, 3, 2, 1, 0], [0], [6, 1, 2, 3, 4, 5, 6], wanted])

    def test_no_copies(self):
        self.assertEqual(made([1, 2], [1, 2, 3], 16, []), [[0], [3, 0, 1, 2], [0], [1, 2, 3]])


class Order(unittest.TestCase):
    def order(self, *copies):
        return last(*told([0] * 8, [0] * 8, 0, copies), ("order",))

    def test_the_least_number_of_those_that_are_free(self):
        self.assertEqual(self.order((0, 4, 1), (1, 5, 1), (4, 6, 1)), [3, 1, 2, 0])

    def test_again_and_again(self):
        self.assertEqual(self.order((0, 4, 1), (4, 5, 1), (1, 6, 1), (2, 7, 1)), [4, 1, 0, 2, 3])

    def test_without_those_left_out_and_those_kept_aside(self):
        # Copy 2 is left out, as it doesn't fit, and copy 3 kept aside: neither has to be waited for.
        copies = [(0, 1, 1), (2, 3, 1), (1, 2, 1), (1, 0, 1)]
        before = told([5, 6, 7, 8], [6, 5, 9, 7], 1, copies)
        self.assertEqual(run(*before, ("choice",), ("order",))[-2:], [[4, 0, 0, 2, 1], [2, 0, 1]])


class Sent(unittest.TestCase):
    def test_what_no_copy_has_and_what_only_copies_left_out_have_rising(self):
        before = told([1, 2, 3, 4, 5, 6], [9, 3, 2, 8, 6, 7], 0, [(5, 4, 1), (4, 3, 1), (1, 2, 1), (2, 1, 1)])
        self.assertEqual(run(*before, ("choice",), ("sent",))[-2:], [[4, 0, 2, 0, 2], [4, 0, 1, 3, 5]])

    def test_a_cell_that_holds_what_is_wanted_is_sent_too_if_no_copy_has_it(self):
        self.assertEqual(last(*rows([1, 2], [1, 2], 16), ("sent",)), [2, 0, 1])

    def test_all_sixteen(self):
        self.assertEqual(last(("begin", 1, 16, 0), ("sent",)), [16, *range(16)])


class Done(unittest.TestCase):
    def test_all_cells(self):
        self.assertEqual(last(("begin", 1, 1, 0), ("done",)), [16] + [0] * 16)
        self.assertEqual(last(*rows([1], [2], 0), ("done",)), [16, 2] + [0] * 15)
        self.assertEqual(last(*rows(list(range(16)), [40], 0), ("done",)), [16, 40, *range(1, 16)])
        self.assertEqual(last(*rows([40], list(range(1, 17)), 0), ("done",)), [16, *range(1, 17)])

    def test_it_is_done_anew_each_time(self):
        self.assertEqual(run(*told([1, 2], [2, 5], 0, [(1, 0, 1)]), ("done",), ("done",), ("want", 1, 6), ("done",))[-4:],
                         [[16, 2, 5] + [0] * 14, [16, 2, 5] + [0] * 14, [5], [16, 2, 6] + [0] * 14])

    def test_the_old_cells_stay(self):
        self.assertEqual(run(*told(*EXCHANGED, 2, EXCHANGE), ("done",), ("rows",))[-1], [5, 1, 2, 3, 4, 5, 5, 4, 5, 1, 2, 3])


class Careless(unittest.TestCase):
    def test_only_those_that_fit_are_done(self):
        self.assertEqual(last(*told([1, 2], [2, 9], 0, [(0, 1, 1), (1, 0, 1)]), ("careless",)), [0])

    def test_those_that_room_would_save_too(self):
        self.assertEqual(last(*told(*EXCHANGED, 16, EXCHANGE), ("careless",)), [2, 0, 1])

    def test_a_ring_that_does_no_harm(self):
        self.assertEqual(run(*told([1, 1], [1, 1], 0, [(0, 1, 1), (1, 0, 1)]), ("ring",), ("careless",))[-2:], [[1], [0]])

    def test_each_reads_ahead_of_writing(self):
        self.assertEqual(last(*told([1, 2, 3, 4], [0, 1, 2, 3], 0, [(0, 1, 3)]), ("careless",)), [0])
        self.assertEqual(last(*told([1, 2, 3, 4], [2, 3, 4, 0], 0, [(1, 0, 3)]), ("careless",)), [0])

    def test_by_their_numbers(self):
        old, wanted = [1, 2, 3], [1, 1, 2]
        self.assertEqual(last(*told(old, wanted, 0, [(0, 1, 1), (1, 2, 1)]), ("careless",)), [1, 2])
        self.assertEqual(last(*told(old, wanted, 0, [(1, 2, 1), (0, 1, 1)]), ("careless",)), [0])

    def test_rising(self):
        copies = [(4, 5, 1), (5, 4, 1), (2, 3, 1), (3, 2, 1)]
        self.assertEqual(last(*told([1, 2, 3, 4, 5, 6], [9, 9, 4, 3, 6, 5], 0, copies), ("careless",)), [2, 2, 4])

    def test_a_copy_that_is_dropped_does_nothing(self):
        self.assertEqual(run(*told(*EXCHANGED, 0, EXCHANGE), ("drop", 0), ("careless",))[-1], [0])


if __name__ == "__main__":
    unittest.main()
