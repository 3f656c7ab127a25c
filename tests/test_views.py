"""[6.1] to [6.7] Views."""

import random

from headsheard.errors import BadView, NoHouse, NoLevel, NoNode
from headsheard.histories import History
from headsheard.nets import Net, path_net
from headsheard.views import View, earlier_view, find_part, part_of, seen_classes, unseen_houses, view_of
from helpers import NO_INTEGERS, NO_SEQUENCES, HeardCase, as_lists
from made_views import ONE, chain, fault_of, made_levels, some_views, wide
from standings import HEARINGS, STARTS, Standings, joined_net, played, some_histories, some_starts


class ExampleTest(HeardCase):
    def test_example_of_the_document(self):
        history = played([(1, 0), (0, 0), (0, 0)], [Net(3, [(0, 1, (1, 1)), (1, 2, (1, 1))])])
        self.assert_same(view_of(history, 2).levels, (((0, 0),), ((0, ((0, (1, 1)),)),)))
        self.assert_same(unseen_houses(history, 2, 1, 0), (0,))


class ViewOfTest(HeardCase):
    def test_views_node_by_node(self):
        for history, starts, nets, hearing in some_histories(70, 120):
            plain = Standings()
            rows = plain.levels(starts, nets, hearing)
            for level, row in enumerate(rows):
                for house, standing in enumerate(row):
                    view = view_of(history, house, level)
                    self.assert_same(view.levels, plain.view(standing, level))
                    self.assertEqual(view.round, level)
                    self.assertIs(type(view), View)
            for house in range(history.houses):
                self.assertEqual(view_of(history, house), view_of(history, house, history.round))

    def test_views_are_views_by_their_levels(self):
        for view, _, _, _ in some_views(71, 150):
            self.assertIsNone(fault_of(view.levels))
            self.assertEqual(View(view.levels), view)
            self.assertEqual(View(as_lists(view.levels)), view)

    def test_views_are_equal_exactly_if_standings_are_one(self):
        source = random.Random(72)
        for _ in range(40):
            plain = Standings()
            houses = source.randrange(1, 5)
            told = []
            for _ in range(2):
                starts = some_starts(source, houses, 1)
                nets = [joined_net(source, houses, (ONE, (1, 2))) for _ in range(3)]
                history = played(starts, nets)
                for level, row in enumerate(plain.levels(starts, nets)):
                    told += [(standing, view_of(history, house, level)) for house, standing in enumerate(row)]
            for standing, view in told:
                for other, seen in told:
                    self.assertIs(view == seen, standing == other)

    def test_houses_of_unlike_numbers_may_have_one_view(self):
        net = Net(2, [(0, 1, ONE)])
        other = Net(4, [(0, 1, ONE), (2, 3, ONE)])
        one = view_of(played([(1, 0), (0, 0)], [net] * 3), 0)
        self.assertEqual(view_of(played([(0, 0), (1, 0), (0, 0), (1, 0)], [other] * 3), 3), one)

    def test_levels_36_and_37(self):
        history = played([(0, 0)], [Net(1, [])] * 36)
        self.assertEqual(view_of(history, 0), View(chain(36)))
        history.add(Net(1, []))
        self.assertEqual(view_of(history, 0, 36).round, 36)
        self.assert_raises(BadView, ("levels", 0, 0), view_of, history, 0)
        self.assert_raises(BadView, ("levels", 0, 0), view_of, history, 0, 37)
        self.assert_raises(NoLevel, (38,), view_of, history, 0, 38)
        self.assert_raises(NoHouse, (1,), view_of, history, 1, 37)
        self.assert_same(seen_classes(history, 0, 37), ((0,),) * 38)
        self.assert_same(unseen_houses(history, 0, 37, 37), ())

    def test_errors(self):
        history = played([(1, 0), (0, 0), (0, 0)], [path_net(3, ONE)] * 2)
        for thing in NO_INTEGERS + (-1, 3):
            self.assert_raises(NoHouse, (thing,), view_of, history, thing)
            self.assert_raises(NoHouse, (thing,), view_of, history, thing, 9)
            if thing is not None:
                self.assert_raises(NoLevel, (thing,), view_of, history, 0, thing)

    def test_twelve_houses_over_36_rounds(self):
        source = random.Random(73)
        strengths = [(top, bottom) for top in (2 * 10 ** 29 + 1, 1) for bottom in (1, 10 ** 29 + 3)]
        nets = [joined_net(source, 12, strengths) for _ in range(36)]
        starts = some_starts(source, 12)
        history = played(starts, nets)
        plain = Standings()
        rows = plain.levels(starts, nets)
        for house in (0, 11):
            self.assert_same(view_of(history, house).levels, plain.view(rows[-1][house], 36))
        self.assertEqual(View(view_of(history, 5).levels), view_of(history, 5))


class FaultsTest(HeardCase):
    def assert_bad(self, what, level, node, levels):
        self.assertEqual(fault_of(levels), (what, level, node))
        self.assert_raises(BadView, (what, level, node), View, levels)
        self.assert_unchanged(View, levels)

    def test_right_views(self):
        for levels in ([[(0, 0)]], [[[1, 3]]], (((0, 2),), ((0, ()),)), chain(36), wide(12), wide(12, 36),
                       [[(0, 0), (1, 0)], [[0, [[1, [3, 1]]]]]]):
            self.assertIsNone(fault_of(levels))
            self.assert_tuples(View(levels).levels)
            self.assertEqual(as_lists(View(levels).levels), as_lists(levels))
            self.assertEqual(View(levels).round, len(levels) - 1)

    def test_levels_and_level(self):
        for thing in NO_SEQUENCES + ([], (), chain(37)):
            self.assert_bad("levels", 0, 0, thing)
        for thing in NO_SEQUENCES + ([], ()):
            self.assert_bad("level", 0, 0, [thing])
            self.assert_bad("level", 2, 0, chain(1) + [thing] + chain(0))
        self.assert_bad("level", 1, 0, wide(13))
        self.assert_bad("level", 0, 0, [list(STARTS) + [(0, 0)] * 5])

    def test_nodes(self):
        for thing in NO_SEQUENCES + ((), (0,), (0, 0, 0), (2, 0), (0, 4), (True, 0), (0, False), (None, 0), (-1, 0)):
            self.assert_bad("node", 0, 1, [[(0, 0), thing], None])
        for thing in NO_SEQUENCES + ((), (0,), (0, (), ())):
            self.assert_bad("node", 1, 0, [[(0, 0)], [thing]])

    def test_parents(self):
        for thing in NO_INTEGERS + (-1, 1, ()):
            self.assert_bad("parent", 2, 0, chain(1) + [[(thing, None)]])

    def test_heard_rows(self):
        two = [(0, 0), (1, 0)]
        for thing in NO_SEQUENCES + ([None], [()], [(0,)], [(0, ONE, 0)], [(2, ONE)], [(-1, ONE)], [(None, ONE)],
                                     [(True, ONE)], [(0, ONE), (0, ONE)], [(1, ONE), (0, ONE)], [(0, ONE), 7],
                                     [(0, None), (0, ONE)], [(0, None), (5, ONE)]):
            self.assert_bad("heard", 1, 0, [two, [(0, thing)]])

    def test_strengths(self):
        for thing in NO_SEQUENCES + ((), (1,), (1, 1, 1), (0, 1), (1, 0), (-1, 1), (2, 2), (True, 1), (1, None)):
            self.assert_bad("strength", 1, 1, [[(0, 0), (1, 0)], [(0, ()), (0, [(0, ONE), (1, thing)])]])
            self.assert_bad("strength", 1, 0, [[(0, 0), (1, 0)], [(0, [(0, thing), (1, ONE)]), None]])

    def test_order(self):
        self.assert_bad("order", 0, 1, [[(0, 1), (0, 1)]])
        self.assert_bad("order", 0, 2, [[(0, 0), (1, 0), (0, 1)], None])
        two = [(0, 0), (1, 0)]
        self.assert_bad("order", 1, 1, [two, [(1, ()), (0, ((1, ONE),))], None])
        self.assert_bad("order", 1, 1, [two, [(0, ((1, (2, 1)),)), (0, ((1, (1, 2)),))]])
        self.assert_bad("order", 1, 1, [two, [[0, [[1, [1, 2]]]], (0, ((1, (1, 2)),))]])
        self.assert_bad("order", 1, 1, [two, [(0, ((1, (1, 2)),)), (0, ())]])
        View([two, [(0, ((1, (1, 3)),)), (0, ((1, (2, 9)),))], [(0, ((1, ONE),))]])

    def test_top_and_loose(self):
        self.assert_bad("top", 0, 0, [[(0, 0), (1, 0)]])
        self.assert_bad("top", 1, 0, [[(0, 0), (0, 1), (1, 0)], [(0, ()), (1, ())]])
        self.assert_bad("loose", 0, 1, [[(0, 0), (0, 1), (1, 0)], [(0, ((2, ONE),))]])
        self.assert_bad("loose", 0, 0, [[(0, 0), (0, 1)], [(1, ())], [(0, ())]])
        self.assert_bad("loose", 1, 1, [[(0, 0)], [(0, ()), (0, ((0, ONE),))], [(0, ())]])
        self.assert_bad("loose", 0, 1, [[(0, 0), (0, 1)], [(0, ()), (0, ((0, ONE),))], [(0, ())]])

    def test_the_first_fault_is_told(self):
        self.assert_bad("levels", 0, 0, [None] * 38)
        self.assert_bad("level", 0, 0, [None] * 37)
        self.assert_bad("level", 1, 0, [[(0, 0)], [None] * 13, None])
        self.assert_bad("node", 1, 0, [[(0, 0)], [None, (0, ())], None])
        self.assert_bad("parent", 1, 0, [[(0, 0)], [(9, None), None]])
        self.assert_bad("heard", 1, 0, [[(0, 0), (1, 0)], [(0, ((1, None), (1, None))), None]])
        self.assert_bad("strength", 1, 1, [[(0, 0)], [(0, ((0, ONE),)), (0, ((0, None),))]])
        self.assert_bad("order", 1, 1, [[(0, 0), (0, 1)], [(0, ()), (0, ()), None]])
        self.assert_bad("top", 1, 0, [[(0, 0), (0, 1)], [(0, ()), (0, ((0, ONE),))]])

    def test_a_view_with_one_thing_changed(self):
        source = random.Random(74)
        things = (None, True, False, -1, 0, 1, 2, 3, 12, "ab", (), [], (0, 0), (1, 1), (0, ()), ((0, ONE),), (2, 4))
        faults = set()
        for _ in range(3000):
            levels = as_lists(made_levels(source, source.randrange(4)))
            place = levels
            while True:
                at = source.randrange(len(place))
                if type(place[at]) is list and place[at] and source.randrange(4):
                    place = place[at]
                else:
                    break
            kind = source.randrange(4)
            if kind == 0:
                place[at] = source.choice(things)
            elif kind == 1:
                del place[at]
            elif kind == 2:
                place.insert(at, source.choice(place))
            else:
                other = source.randrange(len(place))
                place[at], place[other] = place[other], place[at]
            fault = fault_of(levels)
            faults.add(fault and fault[0])
            if fault is None:
                self.assertEqual(as_lists(View(levels).levels), as_lists(levels))
            else:
                self.assert_raises(BadView, fault, View, levels)
        self.assertEqual(faults, {None, "levels", "level", "node", "parent", "heard", "strength", "order", "top",
                                  "loose"})

    def test_later_changes_have_no_effect(self):
        levels = as_lists(chain(2))
        view = View(levels)
        levels[0][0][0] = 1
        levels[2][0][1].append([0, ONE])
        levels.append([])
        self.assertEqual(view, View(chain(2)))


class EqualityTest(HeardCase):
    def test_equality(self):
        self.assertIs(View(chain(2)) == View(as_lists(chain(2))), True)
        self.assertIs(View(chain(2)) == View(chain(3)), False)
        self.assertIs(View([[(0, 0)]]) == View([[(0, 1)]]), False)
        self.assertIs(View(chain(2)) == View(chain(2)).levels, False)
        self.assertIs(View(chain(2)) != View(chain(2)), False)
        self.assertIs(View([[(0, 0)]]) == History([(0, 0)]), False)


class MethodsTest(HeardCase):
    def views(self):
        source = random.Random(75)
        yield from (view for view, _, _, _ in some_views(76, 100))
        yield from (View(made_levels(source, source.randrange(5))) for _ in range(100))

    def test_path_start_and_children(self):
        for view in self.views():
            path = view.path()
            self.assertIsInstance(path, tuple)
            self.assertEqual((len(path), path[-1]), (view.round + 1, 0))
            starts = list(view.levels[0])
            for level in range(view.round + 1):
                if level:
                    self.assertEqual(path[level - 1], view.levels[level][path[level]][0])
                    starts = [starts[parent] for parent, _ in view.levels[level]]
                for node, start in enumerate(starts):
                    self.assert_same(view.start_of(level, node), start)
                    if level < view.round:
                        children = [child for child, one in enumerate(view.levels[level + 1]) if one[0] == node]
                        self.assert_same(view.children(level, node), tuple(children))

    def test_what_became_of_a_class_may_be_out_of_sight(self):
        view = View([[(0, 0), (1, 0)], [(0, ((1, ONE),))]])
        self.assert_same(view.children(0, 0), (0,))
        self.assert_same(view.children(0, 1), ())

    def test_errors(self):
        view = View([[(0, 0), (1, 0)], [(0, ((1, ONE),)), (1, ())], [(0, ((1, ONE),))]])
        for thing in NO_INTEGERS + (-1, 3):
            for function in (view.start_of, view.children):
                self.assert_raises(NoLevel, (thing,), function, thing, 0)
                self.assert_raises(NoLevel, (thing,), function, thing, None)
            self.assert_raises(NoLevel, (thing,), part_of, view, thing, 0)
            self.assert_raises(NoLevel, (thing,), part_of, view, thing, None)
            self.assert_raises(NoLevel, (thing,), earlier_view, view, thing)
        self.assert_raises(NoLevel, (2,), view.children, 2, 0)
        for thing in NO_INTEGERS + (-1, 2):
            self.assert_raises(NoNode, (1, thing), view.start_of, 1, thing)
            self.assert_raises(NoNode, (0, thing), view.children, 0, thing)
            self.assert_raises(NoNode, (0, thing), part_of, view, 0, thing)
        self.assert_raises(NoNode, (2, 1), part_of, view, 2, 1)
        self.assert_raises(NoNode, (2, 1), view.start_of, 2, 1)


class PartsTest(HeardCase):
    def test_the_part_of_a_node_is_the_view_that_its_houses_had(self):
        for history, _, _, _ in some_histories(77, 50):
            for house in range(history.houses):
                view = view_of(history, house)
                for level, lot in enumerate(seen_classes(history, house, history.round)):
                    self.assertEqual(len(lot), len(view.levels[level]))
                    for node, number in enumerate(lot):
                        part = part_of(view, level, node)
                        one = history.classes(level)[number]
                        for other in one.houses:
                            self.assertEqual(part, view_of(history, other, level))
                        self.assertEqual(view.start_of(level, node), one.start)
                        self.assertEqual(find_part(view, part), node)
                        self.assert_tuples(part.levels)
                        self.assertIsNone(fault_of(part.levels))

    def test_earlier_views(self):
        for history, _, _, _ in some_histories(78, 60):
            for house in range(history.houses):
                for level in range(history.round + 1):
                    for below in range(level + 1):
                        self.assertEqual(earlier_view(view_of(history, house, level), below),
                                         view_of(history, house, below))

    def test_find_part_against_a_search(self):
        source = random.Random(79)
        for _ in range(60):
            houses = source.randrange(2, 5)
            starts = some_starts(source, houses, 1)
            nets = [joined_net(source, houses, (ONE, (1, 2))) for _ in range(3)]
            other = [joined_net(source, houses, (ONE, (1, 2))) for _ in range(2)]
            histories = (played(starts, nets), played(starts, nets[:1] + other))
            views = [view_of(history, house, level) for history in histories for house in range(houses)
                     for level in range(4)]
            for view in source.sample(views, 6):
                for part in views:
                    expected = None
                    if part.round <= view.round:
                        nodes = [node for node in range(len(view.levels[part.round]))
                                 if part_of(view, part.round, node) == part]
                        self.assertLess(len(nodes), 2)
                        expected = nodes[0] if nodes else None
                    self.assertEqual(find_part(view, part), expected)

    def test_edges(self):
        view = View([[(0, 0), (1, 0)], [(0, ((1, ONE),))]])
        self.assertEqual(find_part(view, view), 0)
        self.assertEqual(part_of(view, 1, 0), view)
        self.assertEqual(earlier_view(view, 0), View([[(0, 0)]]))
        self.assertEqual(find_part(view, View([[(1, 0)]])), 1)
        self.assertIsNone(find_part(view, View([[(1, 1)]])))
        self.assertIsNone(find_part(view, View([[(0, 0), (1, 0)], [(0, ((1, (2, 1)),))]])))
        self.assertIsNone(find_part(view, View([[(0, 0), (1, 1)], [(0, ((1, ONE),))]])))
        self.assertIsNone(find_part(view, View([[(0, 0), (1, 0)], [(0, ((1, ONE),))], [(0, ())]])))

    def test_parts_of_views_that_no_history_shows(self):
        source = random.Random(80)
        for _ in range(60):
            view = View(made_levels(source, source.randrange(1, 6)))
            for level in range(view.round + 1):
                for node in range(len(view.levels[level])):
                    part = part_of(view, level, node)
                    self.assertIsNone(fault_of(part.levels))
                    self.assertEqual(find_part(view, part), node)
                self.assertEqual(earlier_view(view, level), part_of(view, level, view.path()[level]))


class SeenTest(HeardCase):
    def test_seen_classes_and_unseen_houses(self):
        for history, starts, nets, hearing in some_histories(81, 80):
            plain = Standings()
            rows = plain.levels(starts, nets, hearing)
            place_of = plain.written([set(row) for row in rows])[1]
            for level, row in enumerate(rows):
                for house, standing in enumerate(row):
                    lots = plain.reached(standing, level)
                    self.assert_same(seen_classes(history, house, level),
                                     tuple(tuple(sorted(place_of[one] for one in lot)) for lot in lots))
                    for below in range(level + 1):
                        unseen = tuple(other for other in range(history.houses)
                                       if rows[below][other] not in lots[below])
                        self.assert_same(unseen_houses(history, house, level, below), unseen)

    def test_in_joined_nets_nobody_is_unseen_in_the_end(self):
        source = random.Random(82)
        for _ in range(40):
            houses = source.randrange(1, 7)
            history = played(some_starts(source, houses), [joined_net(source, houses) for _ in range(houses + 1)],
                             source.choice(HEARINGS))
            for house in range(houses):
                for level in range(history.round + 1):
                    unseen = [len(unseen_houses(history, house, level, below)) for below in range(level + 1)]
                    for below in range(level):
                        self.assertTrue(unseen[below] == 0 or unseen[below] < unseen[below + 1])
                        if level >= below + houses - 1:
                            self.assertEqual(unseen[below], 0)

    def test_errors(self):
        history = played([(1, 0), (0, 0), (0, 0)], [path_net(3, ONE)] * 2)
        for thing in NO_INTEGERS + (-1, 3):
            self.assert_raises(NoHouse, (thing,), seen_classes, history, thing, None)
            self.assert_raises(NoLevel, (thing,), seen_classes, history, 0, thing)
            self.assert_raises(NoHouse, (thing,), unseen_houses, history, thing, None, None)
            self.assert_raises(NoLevel, (thing,), unseen_houses, history, 0, thing, 9)
            self.assert_raises(NoLevel, (thing,), unseen_houses, history, 0, 2, thing)
        self.assert_raises(NoLevel, (2,), unseen_houses, history, 0, 1, 2)
        self.assert_same(unseen_houses(history, 0, 1, 1), (1, 2))
