"""[6.8] and [6.9] Joined views and dropped views."""

import random

from headsheard.errors import BadStrength, BadView, NotOneRound
from headsheard.joining import dropped_view, joined_view
from headsheard.nets import Net
from headsheard.views import View, view_of
from helpers import NO_SEQUENCES, HeardCase
from made_views import ONE, chain, fault_of, made_levels, some_views, wide
from standings import HEARINGS, any_net, in_parts, played, some_histories, some_nets, some_starts


def heard_at(history, house, level):
    """The couples that a house hears in the round behind a level."""
    return [(view_of(history, other, level), strength) for other, strength in history.nets[level].heard_by(house)]


class JoinedViewTest(HeardCase):
    def test_example_of_the_document(self):
        history = played([(1, 0), (0, 0), (0, 0)], [Net(3, [(0, 1, (1, 1)), (1, 2, (1, 1))])])
        start = View([[(0, 0)]])
        self.assertIs(joined_view(start, [(start, (1, 1))]) == view_of(history, 2), True)

    def test_the_next_view_of_each_house(self):
        for history, _, _, hearing in some_histories(90, 120):
            for level in range(history.round):
                for house in range(history.houses):
                    own = view_of(history, house, level)
                    view = joined_view(own, heard_at(history, house, level), hearing)
                    self.assertEqual(view, view_of(history, house, level + 1))
                    self.assertEqual(view.round, level + 1)
                    self.assert_tuples(view.levels)
                    self.assertIsNone(fault_of(view.levels))

    def test_any_order_and_strengths_in_several_parts(self):
        source = random.Random(91)
        for history, _, _, hearing in some_histories(92, 80):
            for level in range(history.round):
                house = source.randrange(history.houses)
                heard = [(view, part) for view, strength in heard_at(history, house, level)
                         for part in in_parts(source, strength)]
                source.shuffle(heard)
                view = joined_view(view_of(history, house, level), tuple(heard), hearing)
                self.assertEqual(view, view_of(history, house, level + 1))

    def test_which_counts_a_heard_view_once(self):
        own, other = View([[(0, 0)]]), View([[(1, 0)]])
        heard = [(other, (5, 7)), (own, (2, 1)), (other, (1, 3))]
        self.assert_same(joined_view(own, heard, "which").levels[1], ((0, ((0, ONE), (1, ONE))),))
        self.assert_same(joined_view(own, heard).levels[1], ((0, ((0, (2, 1)), (1, (22, 21)))),))

    def test_views_that_no_history_shows(self):
        source = random.Random(93)
        refused = 0
        for _ in range(150):
            rounds = source.randrange(4)
            views = [View(made_levels(source, rounds)) for _ in range(source.randrange(1, 5))]
            heard = [(source.choice(views), (source.randrange(1, 9), 1)) for _ in range(source.randrange(6))]
            try:
                view = joined_view(views[0], heard)
            except BadView as error:
                self.assertEqual((error.what, error.node), ("level", 0))
                refused += 1
                continue
            self.assertIsNone(fault_of(view.levels))
            self.assertEqual(View(view.levels), view)
            for one, _ in [(views[0], None)] + heard:
                self.assertTrue(len(view.levels[rounds]) >= len(one.levels[rounds]))
            told = {}
            for one, strength in heard:
                told[one.levels] = told.get(one.levels, 0) + strength[0]
            self.assertEqual(sorted(told.values()), sorted(strength[0] for _, strength in view.levels[-1][0][1]))
        self.assertLess(refused, 75)

    def test_who_hears_nobody(self):
        self.assertEqual(joined_view(View(chain(2)), []), View(chain(3)))
        self.assertEqual(joined_view(View(chain(2)), (), "which"), View(chain(3)))

    def test_errors_couple_by_couple(self):
        own, other = View(chain(1)), View(chain(2))
        for thing, what in [(thing, "shape") for thing in NO_SEQUENCES + ((), (1, 1, 1))] + [
                ((1, None), "whole"), ((True, 1), "whole"), ((0, 1), "sign"), ((1, -1), "sign"), ((2, 4), "lowest")]:
            for hearing in HEARINGS:
                self.assert_raises(BadStrength, (what,), joined_view, own, [(own, ONE), (other, thing)], hearing)
                self.assert_raises(BadStrength, (what,), joined_view, own, [(own, thing), (other, ONE)], hearing)
                self.assert_raises(NotOneRound, (1,), joined_view, own, [(own, ONE), (other, ONE), (own, thing)],
                                   hearing)
        self.assert_raises(NotOneRound, (0,), joined_view, own, [(View(chain(0)), ONE)])

    def test_levels_36_and_37(self):
        view = joined_view(View(chain(35)), [(View(chain(35)), (2, 1))])
        self.assertEqual(view, View(chain(35) + [[(0, ((0, (2, 1)),))]]))
        last = View(chain(36))
        self.assert_raises(BadView, ("levels", 0, 0), joined_view, last, [])
        self.assert_raises(BadView, ("levels", 0, 0), joined_view, last, [(last, ONE)])
        self.assert_raises(BadStrength, ("lowest",), joined_view, last, [(last, ONE), (last, (2, 2))])
        self.assert_raises(NotOneRound, (1,), joined_view, last, [(last, ONE), (View(chain(35)), ONE)])

    def test_twelve_and_thirteen_nodes(self):
        views = [View([[(0, 0)], [(0, ((0, (top, 1)),))]]) for top in range(1, 14)]
        joined = joined_view(views[3], [(view, ONE) for view in views[:12]])
        self.assertEqual(len(joined.levels[1]), 12)
        self.assertIsNone(fault_of(joined.levels))
        self.assert_raises(BadView, ("level", 1, 0), joined_view, views[3], [(view, ONE) for view in views])
        self.assert_raises(BadView, ("level", 1, 0), joined_view, views[12], [(view, ONE) for view in views[:12]])

    def test_the_lowest_level_with_too_many_nodes_is_told(self):
        def row(tops, above):
            return [[(0, 0)], [(0, ((0, (top, 1)),)) for top in tops], above]
        one = View(row(range(1, 8), [(0, tuple((number, ONE) for number in range(1, 7)))]))
        two = View(row(range(8, 15), [(0, tuple((number, ONE) for number in range(1, 7)))]))
        self.assert_raises(BadView, ("level", 1, 0), joined_view, one, [(two, ONE)])
        tops = [View(row(range(1, 3), [(0, ((1, (top, 1)),))])) for top in range(1, 15)]
        self.assert_raises(BadView, ("level", 2, 0), joined_view, tops[0], [(view, ONE) for view in tops])

    def test_nothing_passed_in_is_changed(self):
        own, other = View(chain(1)), View([[(0, 0)], [(0, ((0, (2, 1)),))]])
        heard = [[other, [3, 1]], [own, [1, 2]]]
        view = joined_view(own, heard)
        self.assertEqual(heard, [[other, [3, 1]], [own, [1, 2]]])
        self.assertEqual(own, View(chain(1)))
        heard[0][1][0] = 9
        self.assert_same(view.levels[2], ((0, ((0, (1, 2)), (1, (3, 1)))),))


class DroppedViewTest(HeardCase):
    def test_dropping_is_hearing_which(self):
        source = random.Random(94)
        for _ in range(120):
            houses = source.randrange(1, 6)
            starts = some_starts(source, houses)
            nets = some_nets(source, houses, source.randrange(6))
            sums, which = (played(starts, nets, hearing) for hearing in HEARINGS)
            for house in range(houses):
                for level in range(sums.round + 1):
                    dropped = dropped_view(view_of(sums, house, level))
                    self.assertEqual(dropped, view_of(which, house, level))
                    self.assert_tuples(dropped.levels)
                    self.assertEqual(dropped_view(dropped), dropped)

    def test_nodes_that_become_alike_are_one(self):
        levels = wide(12)
        self.assert_same(dropped_view(View(levels)).levels, (((0, 0),), ((0, ((0, ONE),)),), ((0, ((0, ONE),)),)))
        self.assertEqual(View(levels), View(wide(12)))

    def test_nodes_may_change_their_order(self):
        nodes = [(0, ((0, (1, 2)), (1, ONE))), (0, ((0, (2, 3)),))]
        view = View([[(0, 0), (1, 0)], nodes, [(0, ((0, (3, 1)), (1, (4, 1))))]])
        expected = (((0, 0), (1, 0)), ((0, ((0, ONE),)), (0, ((0, ONE), (1, ONE)))), ((1, ((0, ONE), (1, ONE))),))
        self.assert_same(dropped_view(view).levels, expected)

    def test_views_that_no_history_shows(self):
        source = random.Random(95)
        for _ in range(150):
            dropped = dropped_view(View(made_levels(source, source.randrange(6))))
            self.assertIsNone(fault_of(dropped.levels))
            self.assertEqual({strength for level in dropped.levels[1:] for _, heard in level for _, strength in heard}
                             - {ONE}, set())

    def test_joining_the_dropped_is_dropping_the_joined(self):
        for view, history, house, level in some_views(96, 60, hearings=("sums",)):
            if level < history.round:
                heard = [(dropped_view(one), strength) for one, strength in heard_at(history, house, level)]
                self.assertEqual(joined_view(dropped_view(view), heard, "which"),
                                 dropped_view(view_of(history, house, level + 1)))

    def test_twelve_houses(self):
        source = random.Random(97)
        starts, nets = some_starts(source, 12), [any_net(source, 12) for _ in range(36)]
        self.assertEqual(dropped_view(view_of(played(starts, nets), 4)), view_of(played(starts, nets, "which"), 4))
