import itertools
import unittest

from helper import Model, drawn, last, run, source
from samecells.choosing import best_choice, choices_for, may_be_made, sent_cells
from samecells.copies import Copy
from samecells.doing import done_cells


def no_copy_makes(calls):
    """How many new cells no copy has that fits, told by fits, told and rows alone."""
    copies = sum(call[0] == "copy" for call in calls)
    given = run(*calls, ("rows",), *[("told", i) for i in range(copies)], *[("fits", i) for i in range(copies)])
    shown, told, fits = given[len(calls)], given[len(calls) + 1:-copies or None], given[-copies or len(given):]
    cells = set(range(shown[shown[0] + 1]))
    for (f, t, n), (fit,) in zip(told, fits):
        if fit:
            cells -= set(range(t, t + n))
    return len(cells)


class WhatHolds(unittest.TestCase):
    def lists(self, seed, turns=250):
        chance = source(seed)
        return [drawn(chance) for turn in range(turns)]

    def test_done_by_the_best_choice_each_new_cell_holds_what_is_wanted(self):
        for calls in self.lists("done"):
            done, shown = run(*calls, ("done",), ("rows",))[-2:]
            n = shown[0]
            old, wanted = shown[1:n + 1], shown[n + 2:]
            self.assertEqual(done[1:], wanted + (old + [0] * 16)[len(wanted):16], calls)

    def test_with_more_room_never_more_is_sent(self):
        falls = 0
        for calls in self.lists("more room"):
            sent = [answer[0] for answer in run(*calls, *[("ifroom", s) for s in range(17)])[len(calls):]]
            self.assertEqual(sent, sorted(sent, reverse=True), calls)
            falls += sent[0] > sent[-1]
        self.assertGreater(falls, 50)

    def test_with_the_least_room_just_that_is_sent_that_no_copy_makes(self):
        needed = 0
        for calls in self.lists("least room"):
            least = last(*calls, ("leastroom",))[0]
            self.assertEqual(last(*calls, ("ifroom", least)), [no_copy_makes(calls)], calls)
            self.assertEqual(last(*calls, ("room", least), ("best",)), [no_copy_makes(calls), least], calls)
            if least > 0:
                needed += 1
                self.assertGreater(last(*calls, ("ifroom", least - 1)), [no_copy_makes(calls)], calls)
        self.assertGreater(needed, 50)

    def test_without_a_ring_nothing_more_is_sent_than_what_no_copy_makes(self):
        rings = 0
        for calls in self.lists("rings"):
            ring, best, least = run(*calls, ("room", 0), ("ring",), ("best",), ("leastroom",))[-3:]
            rings += ring[0]
            if ring == [0]:
                self.assertEqual((best, least), ([no_copy_makes(calls), 0], [0]), calls)
            else:
                self.assertGreater(min(best[0] - no_copy_makes(calls), least[0]), 0, calls)
        self.assertTrue(50 < rings < 200)

    def test_the_answers_agree(self):
        for calls in self.lists("agree"):
            best, sent, choice, order, room = run(*calls, ("best",), ("sent",), ("choice",), ("order",), ("room", 0))[-5:]
            self.assertEqual(best[0], sent[0])
            self.assertEqual(sent[1:], sorted(set(sent[1:])))
            self.assertEqual(sorted(order[1:]), [i for i, number in enumerate(choice[1:]) if number == 0])
            self.assertLessEqual(best[1], room[0])
            self.assertEqual(last(*calls, ("ifroom", *room)), best[:1])

    def test_without_a_copy_never_less_is_sent(self):
        for calls in self.lists("without"):
            copies = sum(call[0] == "copy" for call in calls)
            sent = last(*calls, ("best",))[0]
            for i in range(copies):
                self.assertGreaterEqual(last(*calls, ("without", i))[0], sent, calls)


class EachChoice(unittest.TestCase):
    """What holds of every choice that may be made, not of the best alone."""

    def drawn(self, seed, turns):
        chance = source(seed)
        for turn in range(turns):
            model = Model()
            for call in drawn(chance):
                model.answer(*call)
            yield model

    def test_those_that_may_be_made(self):
        for model in self.drawn("may be made", 40):
            copies = [Copy(*copy) for copy in model.copies]
            fitting = [model.fit(i) for i in range(len(copies))]
            given = [choice for choice in choices_for(fitting) if may_be_made(copies, choice, model.space)]
            every = itertools.product((0, 1, 2), repeat=len(copies))
            self.assertEqual(given, [list(choice) for choice in every if model.may_be_made(choice)])

    def test_done_so_each_new_cell_holds_what_is_wanted_and_none_sends_less_than_the_best(self):
        many = 0
        for model in self.drawn("each choice", 60):
            old, wanted = model.cells["old"], model.cells["want"]
            copies = [Copy(*copy) for copy in model.copies]
            fitting = [model.fit(i) for i in range(len(copies))]
            best = best_choice(copies, fitting, model.space)
            least = len(sent_cells(copies, best, len(wanted)))
            for choice in choices_for(fitting):
                if may_be_made(copies, choice, model.space):
                    many += 1
                    self.assertEqual(done_cells(old, wanted, copies, choice), model.done_by(choice))
                    self.assertEqual(model.done_by(choice)[:len(wanted)], wanted)
                    self.assertGreaterEqual(len(sent_cells(copies, choice, len(wanted))), least)
        self.assertGreater(many, 1000)


if __name__ == "__main__":
    unittest.main()
