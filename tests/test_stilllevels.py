"""[9.2] to [9.8] Still levels."""

import random
from fractions import Fraction

from headsheard.errors import BadLamps, NoLevel, NoNode
from headsheard.runs import history_of
from headsheard.stilllevels import (
    counts_at, descendants_of, least_numbers, numbers_agree, still_fault, still_levels, still_numbers)
from headsheard.views import View, seen_classes, unseen_houses
from helpers import NO_INTEGERS, HeardCase
from made_views import ONE, chain, some_views
from plain_levels import (
    any_views, children, forebear, heard, joined_runs, plain_agree, plain_counts, plain_numbers, plain_starts,
    plain_still, spun_view, views_of_run)


def couple_view(one, other):
    """A view whose level 0 has two nodes; their children hear one another so strongly (None: not at all)."""
    nodes = [(0, () if one is None else ((1, one),)), (1, () if other is None else ((0, other),))]
    return View([[(0, 0), (1, 0)], nodes, [(0, ((0, ONE), (1, ONE)))]])


class StillTest(HeardCase):
    def test_faults_and_numbers_against_their_words(self):
        told = {}
        for view in any_views(150, 150):
            for level in range(view.round):
                fault, numbers = plain_still(view, level)
                told[fault] = told.get(fault, 0) + 1
                self.assertEqual(still_fault(view, level), fault)
                self.assert_same(least_numbers(view, level), numbers)
        self.assertTrue(all(told.get(fault, 0) > 20 for fault in (None, "children", "apart", "balance")), told)

    def test_numbers_balance_the_level(self):
        for view in any_views(151, 80):
            for level in range(view.round):
                numbers = least_numbers(view, level)
                for v in range(len(numbers or ())):
                    for w in range(v):
                        worths = [numbers[node] * heard(view, level, children(view, level, node)[0], other)
                                  for node, other in ((v, w), (w, v))]
                        self.assertEqual(worths[0], worths[1])

    def test_a_level_with_one_node(self):
        for row in ((), ((0, ONE),)):
            view = View(chain(0) + [[(0, row)]])
            self.assertIsNone(still_fault(view, 0))
            self.assert_same(least_numbers(view, 0), (1,))
        view = View([[(0, 0)], [(0, ()), (0, ((0, ONE),))], [(0, ((1, ONE),))]])
        self.assertEqual(still_fault(view, 0), "children")
        self.assertEqual(still_fault(view, 1), "children")

    def test_two_nodes(self):
        self.assert_same(least_numbers(couple_view((2, 1), (3, 1)), 0), (3, 2))
        self.assert_same(least_numbers(couple_view((1, 2), (1, 6)), 0), (1, 3))
        self.assertEqual(still_fault(couple_view(None, None), 0), "apart")
        self.assertEqual(still_fault(couple_view(ONE, None), 0), "balance")
        self.assertEqual(still_fault(couple_view(None, ONE), 0), "balance")
        self.assertIsNone(least_numbers(couple_view(None, ONE), 0))

    def test_the_first_fault_is_told(self):
        starts = [(0, 0), (0, 1), (1, 0)]
        lost = [(0, ()), (1, ((2, ONE),))]
        self.assertEqual(still_fault(View([starts, lost, [(0, ((1, ONE),))]]), 0), "children")
        twice = [(0, ()), (1, ()), (2, ()), (2, ((0, ONE),))]
        top = [(0, tuple((node, ONE) for node in range(1, 4)))]
        self.assertEqual(still_fault(View([starts, twice, top]), 0), "children")
        alone = [(0, ()), (1, ((2, ONE),)), (2, ())]
        top = [(0, tuple((node, ONE) for node in range(1, 3)))]
        self.assertEqual(still_fault(View([starts, alone, top]), 0), "apart")

    def test_a_ring_of_three_that_does_not_close(self):
        def ring(last):
            nodes = [(0, ((1, ONE), (2, ONE))), (1, ((0, ONE), (2, ONE))), (2, ((0, ONE), (1, last)))]
            return View([[(0, 0), (0, 1), (1, 0)], nodes, [(0, ((1, ONE), (2, ONE)))]])
        self.assertIsNone(still_fault(ring(ONE), 0))
        self.assertEqual(still_fault(ring((2, 1)), 0), "balance")

    def test_what_a_child_heard_of_its_parent_does_not_count(self):
        nodes = [(0, ((0, (5, 1)), (1, ONE))), (1, ((0, ONE), (1, (7, 2))))]
        self.assert_same(least_numbers(View([[(0, 0), (1, 0)], nodes, [(0, ((1, ONE),))]]), 0), (1, 1))
        nodes = [(0, ((0, ONE),)), (1, ((1, ONE),))]
        self.assertEqual(still_fault(View([[(0, 0), (1, 0)], nodes, [(0, ((1, ONE),))]]), 0), "apart")

    def test_great_numbers(self):
        top, bottom = 10 ** 29 + 7, 10 ** 28 + 9
        self.assert_same(least_numbers(couple_view((top, bottom), (1, 3)), 0), (bottom, 3 * top))

    def test_no_level(self):
        view = couple_view(ONE, ONE)
        for thing in NO_INTEGERS + (-1, 2):
            for function in (still_fault, least_numbers, still_numbers):
                self.assert_raises(NoLevel, (thing,), function, view, thing)
            self.assert_raises(NoLevel, (thing,), still_numbers, view, thing, None)
        for function in (still_fault, least_numbers, still_numbers):
            self.assert_raises(NoLevel, (0,), function, View(chain(0)), 0)


class StillNumbersTest(HeardCase):
    def test_against_their_words(self):
        found = {True: 0, False: 0}
        for view in any_views(152, 60):
            for lamps in (1, 2, 3, 12):
                levels = []
                for level in range(view.round):
                    numbers = plain_numbers(view, level, lamps)
                    found[numbers is None] += 1
                    self.assert_same(still_numbers(view, level, lamps), numbers)
                    levels += [] if numbers is None else [level]
                self.assert_same(still_levels(view, lamps), tuple(levels))
            self.assertEqual(still_levels(view), still_levels(view, 1))
        self.assertTrue(min(found.values()) > 100)

    def test_lamps_1_to_12(self):
        view = couple_view((3, 1), (2, 1))
        for lamps in range(1, 13):
            expected = None if lamps % 3 else (2 * lamps // 3, lamps)
            self.assert_same(still_numbers(view, 0, lamps), expected)
            self.assert_same(still_levels(view, lamps), (0,) if expected else ())

    def test_no_lit_node(self):
        view = View([[(0, 0)], [(0, ())]])
        self.assert_same(least_numbers(view, 0), (1,))
        self.assertIsNone(still_numbers(view, 0))
        self.assert_same(still_levels(view), ())

    def test_two_lit_nodes(self):
        nodes = [(0, ((1, ONE),)), (1, ((0, ONE),))]
        view = View([[(1, 0), (1, 1)], nodes, [(0, ((1, ONE),))]])
        self.assertEqual([still_numbers(view, 0, lamps) for lamps in (1, 2, 3, 4)], [None, (1, 1), None, (2, 2)])

    def test_bad_lamps(self):
        for view in (couple_view(ONE, ONE), View(chain(0)), View(chain(3)), couple_view(ONE, None)):
            for thing in NO_INTEGERS + (0, -1, 13):
                self.assert_raises(BadLamps, (thing,), still_levels, view, thing)
                if view.round:
                    self.assert_raises(BadLamps, (thing,), still_numbers, view, 0, thing)

    def test_a_level_in_full_sight_has_the_true_numbers(self):
        seen = 0
        for run, rounds in joined_runs(153, 40):
            rows = views_of_run(run, rounds)
            history = history_of(run)
            for number, row in enumerate(rows):
                for house, view in enumerate(row):
                    for level in range(number):
                        if unseen_houses(history, house, number, level + 1):
                            continue
                        seen += 1
                        still = history.still(level)
                        self.assertIs(still_fault(view, level) is None, still)
                        sizes = tuple(len(one.houses) for one in history.classes(level))
                        self.assertEqual(still_numbers(view, level), sizes if still else None)
        self.assertGreater(seen, 300)


class DescendantsTest(HeardCase):
    def test_against_their_words(self):
        for view in any_views(154, 40):
            for level in range(view.round + 1):
                for later in range(level, view.round + 1):
                    for node in range(len(view.levels[level])):
                        expected = tuple(one for one in range(len(view.levels[later]))
                                         if forebear(view, level, one, later) == node)
                        self.assert_same(descendants_of(view, level, node, later), expected)
                        if later == level:
                            self.assertEqual(expected, (node,))

    def test_a_node_without_a_child(self):
        view = View([[(0, 0), (1, 0)], [(0, ((1, ONE),))]])
        self.assert_same(descendants_of(view, 0, 1, 1), ())
        self.assertIs(numbers_agree(view, 0, (1, 1), 1, (1,)), False)
        self.assertIs(numbers_agree(view, 0, (1, 0), 1, (1,)), True)

    def test_errors(self):
        view = couple_view(ONE, ONE)
        for thing in NO_INTEGERS + (-1, 3):
            self.assert_raises(NoLevel, (thing,), descendants_of, view, thing, None, None)
            self.assert_raises(NoLevel, (thing,), descendants_of, view, 0, 1, thing)
            self.assert_raises(NoLevel, (thing,), numbers_agree, view, thing, (1, 1), 9, (1, 1))
            self.assert_raises(NoLevel, (thing,), numbers_agree, view, 0, (1, 1), thing, (1, 1))
            self.assert_raises(NoLevel, (thing,), counts_at, view, thing, (1, 1))
        for thing in NO_INTEGERS + (-1, 2):
            self.assert_raises(NoNode, (1, thing), descendants_of, view, 1, thing, None)
        self.assert_raises(NoLevel, (0,), descendants_of, view, 1, 0, 0)
        self.assert_raises(NoLevel, (1,), numbers_agree, view, 2, (1,), 1, (1, 1))
        self.assertEqual(descendants_of(view, 2, 0, 2), (0,))


class CountsTest(HeardCase):
    def test_against_their_words(self):
        source = random.Random(155)
        for view in any_views(156, 40):
            for level in range(view.round + 1):
                numbers = [source.randrange(1, 99) for _ in view.levels[level]]
                counts = plain_counts(view, level, numbers)
                self.assert_same(counts_at(view, level, numbers), counts)
                self.assert_same(counts_at(view, level, tuple(numbers)), counts)

    def test_nodes_with_one_start_are_added_up(self):
        view = View([[(0, 1), (1, 0)], [(0, ()), (0, ((1, ONE),)), (1, ())], [(0, ((1, ONE), (2, ONE)))]])
        numbers = [3, 4, 2]
        self.assert_same(counts_at(view, 1, numbers), (((0, 1), 7), ((1, 0), 2)))
        self.assertEqual(numbers, [3, 4, 2])
        self.assertEqual(plain_starts(view, 1), [(0, 1), (0, 1), (1, 0)])


class AgreeTest(HeardCase):
    def test_against_their_words(self):
        source = random.Random(157)
        told = {True: 0, False: 0}
        for view in any_views(158, 40):
            for level in range(view.round + 1):
                for later in range(level, view.round + 1):
                    others = [source.randrange(1, 4) for _ in view.levels[later]]
                    numbers = [sum(others[one] for one in descendants_of(view, level, node, later))
                               for node in range(len(view.levels[level]))]
                    if source.randrange(2):
                        numbers[source.randrange(len(numbers))] += source.choice((1, -1))
                    expected = plain_agree(view, level, numbers, later, others)
                    if min(numbers) < 1:
                        continue
                    told[expected] += 1
                    for kind in (list, tuple):
                        self.assertIs(numbers_agree(view, level, kind(numbers), later, kind(others)), expected)
        self.assertTrue(min(told.values()) > 50)

    def test_agreement_is_transitive_and_keeps_the_counts(self):
        source = random.Random(159)
        agreed = 0
        for _ in range(300):
            view = spun_view(source, 6)
            rows = [(level, still_numbers(view, level)) for level in still_levels(view)]
            for at, (one, numbers) in enumerate(rows):
                for to, (two, others) in enumerate(rows[at + 1:], at + 1):
                    if not numbers_agree(view, one, numbers, two, others):
                        continue
                    agreed += 1
                    self.assertEqual(counts_at(view, one, numbers), counts_at(view, two, others))
                    for three, more in rows[to + 1:]:
                        if numbers_agree(view, two, others, three, more):
                            self.assertTrue(numbers_agree(view, one, numbers, three, more))
        self.assertGreater(agreed, 50)

    def test_true_numbers_agree(self):
        for view, history, house, level in some_views(160, 60, hearings=("sums",)):
            lots = seen_classes(history, house, level)
            sizes = [[len(history.classes(at)[number].houses) for number in lot] for at, lot in enumerate(lots)]
            for one in range(level + 1):
                for two in range(one, level + 1):
                    if not unseen_houses(history, house, level, two):
                        self.assertIs(numbers_agree(view, one, sizes[one], two, sizes[two]), True)

    def test_nothing_passed_in_is_changed(self):
        view = couple_view(ONE, ONE)
        numbers, others = [1, 1], [1, 1]
        numbers_agree(view, 0, numbers, 1, others)
        counts_at(view, 0, numbers)
        self.assertEqual((numbers, others), ([1, 1], [1, 1]))
        self.assertEqual(view, couple_view(ONE, ONE))
        self.assertEqual(Fraction(1), heard(view, 0, 0, 1))
