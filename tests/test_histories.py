"""[5.1] to [5.9] Histories of standings."""

import random
from fractions import Fraction

from headsheard.errors import BadStarts, NoClass, NoHouse, NoLevel, WrongNet
from headsheard.histories import History, HouseClass, check_starts
from headsheard.nets import Net, complete_net, path_net, ring_net
from headsheard.strengths import NONE, plus, times, total
from helpers import NO_INTEGERS, NO_SEQUENCES, HeardCase, as_lists
from standings import (
    HEARINGS, Standings, any_net, joined_net, played, some_histories, some_nets, some_starts)

ONE = (1, 1)


class ExampleTest(HeardCase):
    def test_example_of_the_document(self):
        history = History([(1, 0), (0, 0), (0, 0)])
        history.add(Net(3, [(0, 1, (1, 1)), (1, 2, (1, 1))]))
        self.assert_same(history.levels[1],
                         ((0, ((0, (1, 1)),)), (0, ((0, (1, 1)), (1, (1, 1)))), (1, ((0, (1, 1)),))))
        self.assertEqual([one.houses for one in history.classes(1)], [(2,), (1,), (0,)])
        self.assertEqual([history.children(0, 0), history.flow(0, 0, 0), history.flow(0, 0, 1)],
                         [(0, 1), (2, 1), (1, 1)])


class StandingsTest(HeardCase):
    def test_attributes(self):
        for history, starts, nets, hearing in some_histories(50, 40):
            self.assert_same(history.starts, tuple(starts))
            self.assertEqual(history.houses, len(starts))
            self.assertEqual(history.hearing, hearing)
            self.assertEqual(history.round, len(nets))
            self.assertIsInstance(history.nets, tuple)
            self.assertEqual(history.nets, tuple(nets))
            self.assertEqual(len(history.levels), len(nets) + 1)

    def test_hearing_is_sums_if_none_is_told(self):
        self.assertEqual(History([(1, 0)]).hearing, "sums")

    def test_levels_against_the_standings_of_each_house(self):
        for history, starts, nets, hearing in some_histories(51, 250):
            plain = Standings()
            rows = plain.levels(starts, nets, hearing)
            levels, place_of = plain.written([set(row) for row in rows])
            self.assert_same(history.levels, levels)
            for level, row in enumerate(rows):
                for house, standing in enumerate(row):
                    self.assertEqual(history.class_of(house, level), place_of[standing])

    def test_classes(self):
        for history, starts, _, _ in some_histories(52, 120):
            for level in range(history.round + 1):
                classes = history.classes(level)
                self.assertIsInstance(classes, tuple)
                self.assertEqual(sorted(house for one in classes for house in one.houses), list(range(len(starts))))
                for number, one in enumerate(classes):
                    self.assert_same(one.houses, tuple(house for house in range(history.houses)
                                                       if history.class_of(house, level) == number))
                    self.assertEqual({starts[house] for house in one.houses}, {one.start})
                    if level == 0:
                        self.assertIsNone(one.parent)
                        self.assertEqual((one.heard, one.start), ((), history.levels[0][number]))
                    else:
                        self.assert_same((one.parent, one.heard), history.levels[level][number])
                        self.assertEqual({history.class_of(house, level - 1) for house in one.houses}, {one.parent})

    def test_twelve_houses_over_many_rounds(self):
        source = random.Random(53)
        starts = some_starts(source, 12)
        nets = [joined_net(source, 12) for _ in range(40)]
        for hearing in HEARINGS:
            plain = Standings()
            lots = [set(row) for row in plain.levels(starts, nets, hearing)]
            self.assert_same(played(starts, nets, hearing).levels, plain.written(lots)[0])

    def test_strengths_are_compared_as_tuples(self):
        history = played([(0, 0), (0, 0), (1, 0)], [Net(3, [(0, 2, (2, 1)), (1, 2, (1, 3))])])
        self.assertEqual([one.houses for one in history.classes(1)], [(1,), (0,), (2,)])
        history = played([(0, 0), (0, 0), (1, 0)], [Net(3, [(0, 2, (3, 2)), (1, 2, (2, 1))])])
        self.assertEqual([one.houses for one in history.classes(1)], [(1,), (0,), (2,)])

    def test_sums_that_meet_are_one_standing(self):
        net = Net(5, [(0, 2, (1, 2)), (0, 3, (1, 2)), (1, 4, (1, 1))])
        starts = [(0, 0), (0, 0), (1, 0), (1, 0), (1, 0)]
        self.assertIsNone(played(starts, [net]).parted_at(0, 1))
        net = Net(5, [(0, 2, (1, 2)), (0, 3, (1, 3)), (1, 4, (1, 1))])
        self.assertEqual(played(starts, [net]).parted_at(0, 1), 1)
        self.assertIsNone(played(starts, [net], "which").parted_at(0, 1))

    def test_which_hears_only_ones(self):
        for history, _, _, hearing in some_histories(54, 60):
            heard = [strength for level in history.levels[1:] for _, row in level for _, strength in row]
            if hearing == "which":
                self.assertEqual(set(heard) - {ONE}, set())

    def test_who_hears_nobody_hears_nothing(self):
        history = played([(0, 0), (1, 0)], [Net(2, []), Net(2, [(0, 0, (2, 1))])])
        self.assert_same(history.levels, (((0, 0), (1, 0)), ((0, ()), (1, ())), ((0, ((0, (2, 1)),)), (1, ()))))

    def test_one_house(self):
        history = played([(1, 3)], [Net(1, []), Net(1, [(0, 0, (1, 2))])])
        self.assert_same(history.levels, (((1, 3),), ((0, ()),), ((0, ((0, (1, 2)),)),)))
        self.assertEqual(history.branching(), ())

    def test_an_echo_of_one_strength_at_all_houses_of_a_class_parts_nobody(self):
        source = random.Random(55)
        for at in range(60):
            houses = source.randrange(2, 6)
            starts = some_starts(source, houses)
            nets = some_nets(source, houses, 3)
            plain = played(starts, nets)
            number = source.randrange(len(plain.levels[2]))
            lot = plain.classes(2)[number].houses
            if any(nets[2].strength_of(house, house) for house in lot):
                continue
            echoes = [(house, house, (4, 9)) for house in lot]
            other = played(starts, nets[:2] + [Net(houses, list(nets[2].links) + echoes)])
            for one in range(houses):
                for two in range(houses):
                    self.assertEqual(plain.parted_at(one, two), other.parted_at(one, two))


class BranchingTest(HeardCase):
    def test_children_still_and_branching(self):
        for history, _, _, _ in some_histories(56, 150):
            branching = []
            for level in range(history.round):
                expected = [tuple(sorted({history.class_of(house, level + 1) for house in one.houses}))
                            for one in history.classes(level)]
                for number, children in enumerate(expected):
                    self.assert_same(history.children(level, number), children)
                still = all(len(children) == 1 for children in expected)
                self.assertIs(history.still(level), still)
                branching += [] if still else [level]
            self.assert_same(history.branching(), tuple(branching))
            self.assertLessEqual(len(branching), history.houses - len(set(history.starts)))

    def test_parted_at(self):
        for history, _, _, _ in some_histories(57, 120):
            for one in range(history.houses):
                for other in range(history.houses):
                    unlike = [level for level in range(history.round + 1)
                              if history.class_of(one, level) != history.class_of(other, level)]
                    self.assertEqual(history.parted_at(one, other), unlike[0] if unlike else None)
                    self.assertEqual(unlike, list(range(unlike[0], history.round + 1)) if unlike else [])

    def test_parted_by_starts(self):
        self.assertEqual(History([(0, 0), (1, 0)]).parted_at(0, 1), 0)
        self.assertIsNone(History([(0, 0), (0, 0)]).parted_at(0, 1))
        self.assertIsNone(History([(0, 0), (1, 0)]).parted_at(1, 1))

    def test_over_a_row_that_comes_round_nobody_parts_after_a_still_period(self):
        source = random.Random(58)
        for _ in range(60):
            houses = source.randrange(1, 7)
            period = source.randrange(1, 4)
            row = some_nets(source, houses, period)
            history = played(some_starts(source, houses), row * (houses + 2))
            still = [level for level in range(history.round - period + 1)
                     if all(history.still(later) for later in range(level, level + period))]
            self.assertTrue(still)
            self.assertEqual([level for level in history.branching() if level >= still[0]], [])

    def test_a_ring_parts_by_the_way_from_the_lamp(self):
        history = played([(1, 0)] + [(0, 0)] * 5, [ring_net(6, ONE)] * 5)
        self.assertEqual(history.branching(), (0, 1))
        self.assertEqual([history.parted_at(1, other) for other in range(6)], [0, None, 1, 1, 1, None])
        self.assertEqual(history.parted_at(2, 3), 2)


class FlowTest(HeardCase):
    def test_flow_against_its_words(self):
        for history, _, nets, _ in some_histories(59, 150):
            for level in range(history.round):
                classes = history.classes(level)
                for one, first in enumerate(classes):
                    for other, second in enumerate(classes):
                        worth = sum((Fraction(*strength) for house in first.houses
                                     for heard, strength in nets[level].heard_by(house) if heard in second.houses),
                                    Fraction(0))
                        flow = history.flow(level, one, other)
                        self.assert_same(flow, (worth.numerator, worth.denominator))
                        self.assertEqual(flow, history.flow(level, other, one))

    def test_with_sums_it_is_what_the_children_hear(self):
        for history, _, _, hearing in some_histories(60, 100):
            if hearing == "which":
                continue
            for level in range(history.round):
                above = history.classes(level + 1)
                for one in range(len(history.levels[level])):
                    for other in range(len(history.levels[level])):
                        parts = [times((len(above[child].houses), 1), dict(above[child].heard).get(other, NONE))
                                 for child in history.children(level, one)]
                        self.assertEqual(history.flow(level, one, other), total(parts))

    def test_links_within_a_class_count_twice_and_echoes_once(self):
        net = Net(3, [(0, 1, (1, 3)), (0, 0, (5, 1)), (1, 2, (7, 1))])
        for hearing in HEARINGS:
            history = played([(0, 0), (0, 0), (1, 0)], [net], hearing)
            self.assert_same(history.flow(0, 0, 0), plus((2, 3), (5, 1)))
            self.assert_same(history.flow(0, 0, 1), (7, 1))
            self.assert_same(history.flow(0, 1, 0), (7, 1))
            self.assert_same(history.flow(0, 1, 1), (0, 1))


class CheckStartsTest(HeardCase):
    def test_right_starts(self):
        for starts in ([(1, 0)], ((0, 3), (1, 2), (0, 3)), [[0, 0]] * 12, ([1, 3], (0, 0))):
            self.assert_same(check_starts(starts), tuple(tuple(start) for start in starts))
            self.assert_same(History(starts).starts, check_starts(starts))

    def test_wrong_starts(self):
        cases = [(thing, "many", 0) for thing in NO_SEQUENCES + ([], (), [(0, 0)] * 13)]
        cases += [([(0, 0), thing], "start", 1) for thing in NO_SEQUENCES + ((), (1,), (0, 0, 0))]
        cases += [([(0, 0), (1, 0), (thing, 0)], "lit", 2) for thing in NO_INTEGERS + (-1, 2)]
        cases += [([(1, thing), (0, 0)], "word", 0) for thing in NO_INTEGERS + (-1, 4)]
        for starts, what, at in cases:
            self.assert_raises(BadStarts, (what, at), check_starts, starts)
            self.assert_raises(BadStarts, (what, at), History, starts)
            self.assert_raises(BadStarts, (what, at), History, starts, "which")

    def test_the_first_fault_is_told(self):
        self.assert_raises(BadStarts, ("many", 0), check_starts, [None] * 13)
        self.assert_raises(BadStarts, ("start", 0), check_starts, [(2,), (2, 9)])
        self.assert_raises(BadStarts, ("lit", 0), check_starts, [(2, 9), None])
        self.assert_raises(BadStarts, ("word", 0), check_starts, [(1, 9), None])
        self.assert_raises(BadStarts, ("lit", 1), check_starts, [(0, 0), (True, 0), (0, True), None])
        self.assert_raises(BadStarts, ("word", 1), check_starts, [(0, 0), (0, False), (None, 0)])


class ErrorsTest(HeardCase):
    def setUp(self):
        self.history = played([(1, 0), (0, 0), (0, 0)], [path_net(3, ONE)] * 2)

    def test_no_house(self):
        for thing in NO_INTEGERS + (-1, 3):
            self.assert_raises(NoHouse, (thing,), self.history.class_of, thing, 0)
            self.assert_raises(NoHouse, (thing,), self.history.class_of, thing, 9)
            self.assert_raises(NoHouse, (thing,), self.history.parted_at, thing, 0)
            self.assert_raises(NoHouse, (thing,), self.history.parted_at, 0, thing)
        self.assert_raises(NoHouse, (7,), self.history.parted_at, 7, 8)

    def test_no_level(self):
        for thing in NO_INTEGERS + (-1, 3):
            self.assert_raises(NoLevel, (thing,), self.history.classes, thing)
            self.assert_raises(NoLevel, (thing,), self.history.class_of, 0, thing)
        for thing in NO_INTEGERS + (-1, 2):
            self.assert_raises(NoLevel, (thing,), self.history.children, thing, 0)
            self.assert_raises(NoLevel, (thing,), self.history.children, thing, None)
            self.assert_raises(NoLevel, (thing,), self.history.still, thing)
            self.assert_raises(NoLevel, (thing,), self.history.flow, thing, 0, 0)
            self.assert_raises(NoLevel, (thing,), self.history.flow, thing, None, None)

    def test_level_0_of_a_history_without_rounds(self):
        history = History([(1, 0)])
        self.assertEqual(history.branching(), ())
        self.assertEqual(history.class_of(0, 0), 0)
        self.assertEqual(history.classes(0), (HouseClass((1, 0), None, (), (0,)),))
        self.assert_raises(NoLevel, (0,), history.still, 0)
        self.assert_raises(NoLevel, (0,), history.children, 0, 0)
        self.assert_raises(NoLevel, (0,), history.flow, 0, 0, 0)

    def test_no_class(self):
        for thing in NO_INTEGERS + (-1, 2):
            self.assert_raises(NoClass, (thing,), self.history.children, 0, thing)
            self.assert_raises(NoClass, (thing,), self.history.flow, 0, thing, 0)
            self.assert_raises(NoClass, (thing,), self.history.flow, 0, 0, thing)
        self.assert_raises(NoClass, (3,), self.history.children, 1, 3)
        self.assert_raises(NoClass, (8,), self.history.flow, 0, 8, 9)

    def test_a_net_of_other_houses_is_refused_and_changes_nothing(self):
        before = (self.history.levels, self.history.nets, self.history.round)
        for houses in (1, 2, 4, 12):
            self.assert_raises(WrongNet, (houses,), self.history.add, complete_net(houses, ONE))
        self.assertEqual((self.history.levels, self.history.nets, self.history.round), before)
        self.assertIsNone(self.history.add(path_net(3, ONE)))
        self.assertEqual(self.history.levels, played(self.history.starts, [path_net(3, ONE)] * 3).levels)

    def test_levels_that_stand_never_change(self):
        source = random.Random(61)
        history = History([(1, 0), (0, 0), (0, 1), (0, 0)])
        for _ in range(6):
            levels, nets, classes = history.levels, history.nets, history.classes(history.round)
            history.add(any_net(source, 4))
            self.assertEqual(history.levels[:-1], levels)
            self.assertEqual(history.nets[:-1], nets)
            self.assertEqual(history.classes(history.round - 1), classes)

    def test_nothing_passed_in_is_kept_or_changed(self):
        starts = [[1, 0], [0, 0]]
        history = History(starts)
        self.assertEqual(starts, [[1, 0], [0, 0]])
        starts[0][0] = 0
        starts.append([0, 0])
        self.assert_same(history.starts, ((1, 0), (0, 0)))
        net = path_net(2, ONE)
        history.add(net)
        self.assertEqual(net, path_net(2, ONE))
        self.assert_unchanged(check_starts, as_lists(starts))


class HouseClassTest(HeardCase):
    def test_a_result(self):
        start, parent, heard, houses = [1], "a", {1: 2}, [3]
        one = HouseClass(start, parent, heard, houses)
        for kept, given in ((one.start, start), (one.parent, parent), (one.heard, heard), (one.houses, houses)):
            self.assertIs(kept, given)

    def test_equality(self):
        told = ((1, 0), 0, ((0, ONE),), (2, 3))
        self.assertIs(HouseClass(*told) == HouseClass(*told), True)
        for at, other in enumerate(((0, 0), 1, (), (2,))):
            self.assertIs(HouseClass(*told) == HouseClass(*told[:at], other, *told[at + 1:]), False)
        self.assertIs(HouseClass(*told) == told, False)
        self.assertIs(HouseClass(*told) != HouseClass(*told), False)
