"""[12.1], [12.2], [12.5] to [12.7] What is sure."""

import random

from headsheard.canon import heads_of
from headsheard.errors import NeedsMost, NeedsSums, NoWorld
from headsheard.facts import Facts
from headsheard.longpapers import LongPaper
from headsheard.nets import complete_net, path_net, renumber_net, scale_net
from headsheard.runs import Run, walk_run
from headsheard.sayings import both_sayings
from headsheard.sure import find_sure, first_sure, heads_left, sure_counts
from headsheard.views import View, earlier_view, view_of
from headsheard.worlds import World, counts_of
from helpers import HeardCase, as_lists
from made_views import ONE, chain
from plain_worlds import plain_worlds, run_couples, small_run, some_saying, true_of, world_couples
from standings import joined_net, played, some_starts

LAMP = View([[(0, 0), (1, 0)], [(0, ((1, (3, 1)),)), (1, ((0, (3, 1)),))], [(1, ((0, (3, 1)),))]])
TWO = (((0, 0), 1), ((1, 0), 1))
TWO_HEADS = ("same", ((1, -1),), 2)
TRUE = ("most", ((-1, -1),), 0)


def is_sure(view, facts, saying):
    return isinstance(find_sure(view, facts, saying), LongPaper)


class FindSureTest(HeardCase):
    def test_against_all_worlds(self):
        source = random.Random(1210)
        told = {"sure": 0, "open": 0, "none": 0}
        for view, facts in world_couples(1211, 110):
            worlds = plain_worlds(view, facts)
            for _ in range(6):
                saying = some_saying(source, facts.words, 3)
                if not worlds:
                    self.assert_raises(NoWorld, (), find_sure, view, facts, saying)
                    told["none"] += 1
                    continue
                against = [world for world in worlds if not true_of(saying, world[1])]
                found = find_sure(view, facts, saying)
                if against:
                    heads, counts, rows = min(against)
                    self.assertIs(type(found), World)
                    self.assert_same(found.told, (rows, counts))
                    self.assertEqual(found.heads, heads)
                else:
                    self.assertIs(type(found), LongPaper)
                    self.assert_tuples(found.told)
                told["open" if against else "sure"] += 1
        self.assertTrue(min(told.values()) > 60, told)

    def test_example(self):
        facts = Facts(5)
        self.assertTrue(is_sure(LAMP, facts, TWO_HEADS))
        self.assert_same(sure_counts(LAMP, facts), TWO)
        earlier = earlier_view(LAMP, 1)
        self.assert_same(heads_left(earlier, facts), (2, 3, 4, 5))
        self.assertIsNone(sure_counts(earlier, facts))
        self.assert_same(find_sure(earlier, facts, TWO_HEADS).told, (((2, 1), (1,)), (((0, 0), 2), ((1, 0), 1))))
        self.assert_same(heads_left(LAMP, facts), (2,))

    def test_round_0(self):
        view = View([[(1, 1)]])
        self.assert_same(heads_left(view, Facts(3, 1, 2)), (1, 2, 3))
        self.assertTrue(is_sure(view, Facts(3, 1, 2), ("not", ("most", ((1, 1),), 0))))
        self.assertEqual(find_sure(view, Facts(3, 1, 2), ("most", ((1, -1),), 1)).counts, (((0, 0), 1), ((1, 1), 1)))
        self.assertTrue(is_sure(view, Facts(1, 1, 2), ("same", ((1, -1),), 1)))

    def test_twelve_rounds_and_most_eight(self):
        starts = [(int(house == 5), house % 3) for house in range(8)]
        history = played(starts, [path_net(8, ONE)] * 12)
        for house in (0, 5, 7):
            view = view_of(history, house)
            self.assertEqual(heads_left(view, Facts(8, 1, 4))[-1], 8)
        self.assertEqual(sure_counts(view_of(history, 5), Facts(8, 1, 4)), sure_counts(view_of(history, 4), Facts(8, 1, 4)))
        history = played(starts[:4] + [(1, 3)] * 4, [complete_net(8, ONE)] * 12)
        self.assertEqual(heads_left(view_of(history, 7), Facts(8, 4, 4)), (8,))

    def test_many_words_and_houses_out_of_sight(self):
        view = View([[(0, 2)], [(0, ((0, ONE),))]])
        facts = Facts(8, 2, 4)
        self.assertEqual(len(counts_of(view, facts)), len({counts for _, counts, _ in plain_worlds(view, facts)}))
        self.assertTrue(is_sure(view, facts, ("most", ((-1, -1),), -3)))
        # With two lamps out of sight, one more house of the own class has to lose sight of the others.
        self.assertEqual(find_sure(view, facts, ("most", ((-1, -1),), -5)).heads, 4)


class WhatIsSureStaysSureTest(HeardCase):
    def test_at_later_views(self):
        source = random.Random(1212)
        kept = 0
        for _ in range(25):
            history, facts = small_run(source, most=4, rounds=5)
            house = source.randrange(history.houses)
            for _ in range(6):
                saying = some_saying(source, facts.words)
                truths = [is_sure(view_of(history, house, level), facts, saying) for level in range(history.round + 1)]
                self.assertEqual(truths, sorted(truths))
                kept += sum(truths)
        self.assertGreater(kept, 50)

    def test_for_lesser_mosts_that_leave_a_world(self):
        source = random.Random(1213)
        seen = {"sure": 0, "no world": 0}
        for view, facts in run_couples(1214, 40, most=5):
            saying = some_saying(source, facts.words)
            if not is_sure(view, facts, saying):
                continue
            for most in range(max(1, facts.lamps), facts.most):
                less = Facts(most, facts.lamps, facts.words)
                if counts_of(view, less):
                    self.assertTrue(is_sure(view, less, saying))
                    seen["sure"] += 1
                else:
                    self.assert_raises(NoWorld, (), find_sure, view, less, saying)
                    seen["no world"] += 1
        self.assertTrue(min(seen.values()) > 3, seen)

    def test_both_of_two_sayings(self):
        source = random.Random(1215)
        seen = {}
        for view, facts in run_couples(1216, 60):
            one, other = some_saying(source, facts.words, 1), some_saying(source, facts.words, 1)
            told = (is_sure(view, facts, one), is_sure(view, facts, other))
            self.assertEqual(is_sure(view, facts, both_sayings(one, other)), all(told))
            if all(told):
                # A saying that is sure has an opposite that is not.
                self.assertFalse(is_sure(view, facts, ("not", one)))
            seen[told] = seen.get(told, 0) + 1
        self.assertTrue(len(seen) == 4 and seen[True, True] > 3, seen)

    def test_with_one_lamp_a_saying_or_its_opposite_is_sure_in_time(self):
        source = random.Random(1217)
        late = 0
        for _ in range(40):
            houses, most = source.randrange(1, 6), source.randrange(5, 9)
            facts = Facts(most, 1, 3)
            starts = some_starts(source, houses, 3)
            nets = [joined_net(source, houses) for _ in range(houses + most - 2)]
            history = played(starts, nets)
            for house in range(houses):
                saying = some_saying(source, 3)
                truth = true_of(saying, tuple((start, starts.count(start)) for start in sorted(set(starts))))
                view = view_of(history, house)
                self.assertTrue(is_sure(view, facts, saying if truth else ("not", saying)))
                self.assertEqual(heads_left(view, facts), (houses,))
                views = [view_of(history, house, level) for level in range(history.round + 1)]
                first = first_sure(views, facts, saying if truth else ("not", saying))
                self.assertTrue(first <= houses + most - 2)
                late += first > 1
        self.assertGreater(late, 30)


class NumbersChangeNothingTest(HeardCase):
    def test_houses_renumbered(self):
        source = random.Random(1218)
        for _ in range(25):
            history, facts = small_run(source, most=5)
            places = list(range(history.houses))
            source.shuffle(places)
            starts = [history.starts[places.index(house)] for house in range(history.houses)]
            other = played(starts, [renumber_net(net, places) for net in history.nets])
            saying = some_saying(source, facts.words)
            for house in range(history.houses):
                one, two = view_of(history, house), view_of(other, places[house])
                self.assertTrue(find_sure(one, facts, saying) == find_sure(two, facts, saying))
                self.assertEqual(counts_of(one, facts), counts_of(two, facts))

    def test_words_renumbered(self):
        source = random.Random(1219)

        def named(saying, become):
            if saying[0] in ("most", "same"):
                terms = tuple((factor, word if word < 0 else become[word]) for factor, word in saying[1])
                return (saying[0], terms, saying[2])
            if saying[0] == "not":
                return ("not", named(saying[1], become))
            return (saying[0], tuple(named(part, become) for part in saying[1]))

        for _ in range(30):
            history, facts = small_run(source, most=4)
            become = source.sample(range(facts.words), facts.words)
            other = played([(lit, become[word]) for lit, word in history.starts], history.nets)
            saying = some_saying(source, facts.words)
            house = source.randrange(history.houses)
            one, two = view_of(history, house), view_of(other, house)
            self.assertEqual(is_sure(one, facts, saying), is_sure(two, facts, named(saying, become)))
            told = [tuple(sorted(((lit, become[word]), number) for (lit, word), number in counts))
                    for counts in counts_of(one, facts)]
            self.assertEqual(sorted(told), sorted(counts_of(two, facts)))
            self.assertEqual(heads_left(one, facts), heads_left(two, facts))

    def test_all_strengths_of_one_round_multiplied(self):
        source = random.Random(1220)
        for _ in range(30):
            history, facts = small_run(source, most=5)
            nets = [scale_net(net, source.choice(((1, 1), (7, 3), (1, 5), (10 ** 20, 3)))) for net in history.nets]
            other = played(history.starts, nets)
            saying = some_saying(source, facts.words)
            for house in range(history.houses):
                one, two = view_of(history, house), view_of(other, house)
                self.assertEqual(counts_of(one, facts), counts_of(two, facts))
                self.assertEqual(is_sure(one, facts, saying), is_sure(two, facts, saying))


class OthersTest(HeardCase):
    def test_sure_counts_and_heads_left(self):
        seen = {}
        for view, facts in world_couples(1221, 120):
            worlds = plain_worlds(view, facts)
            if not worlds:
                self.assert_raises(NoWorld, (), sure_counts, view, facts)
                self.assert_raises(NoWorld, (), heads_left, view, facts)
                kind = "none"
            else:
                unlike = sorted({counts for _, counts, _ in worlds})
                self.assert_same(sure_counts(view, facts), unlike[0] if len(unlike) == 1 else None)
                self.assert_same(heads_left(view, facts), tuple(sorted({heads_of(counts) for counts in unlike})))
                kind = "sure" if len(unlike) == 1 else "open"
            seen[kind] = seen.get(kind, 0) + 1
        self.assertTrue(len(seen) == 3 and min(seen.values()) > 10, seen)

    def test_worlds_of_the_same_heads_with_unlike_counts_are_not_sure(self):
        view = View([[(0, 0)]])
        self.assertIsNone(sure_counts(view, Facts(2, 1, 2)))
        self.assert_same(heads_left(view, Facts(2, 1, 2)), (2,))

    def test_first_sure(self):
        source = random.Random(1222)
        told = {None: 0}
        for _ in range(40):
            history, facts = small_run(source, most=4, rounds=6)
            house = source.randrange(history.houses)
            views = [view_of(history, house, level) for level in range(history.round + 1)]
            if source.randrange(2):
                views = views[source.randrange(len(views)):]
            saying = some_saying(source, facts.words)
            sure = [view.round for view in views if is_sure(view, facts, saying)]
            first = first_sure(source.choice((views, tuple(views))), facts, saying)
            self.assert_same(first, sure[0] if sure else None)
            told[first] = told.get(first, 0) + 1
        self.assertTrue(told[None] > 5 and len(told) > 3, told)

    def test_no_views(self):
        for facts in (Facts(3), Facts(None), Facts(3, hearing="which")):
            for views in ((), []):
                self.assertIsNone(first_sure(views, facts, TRUE))

    def test_a_view_without_a_world(self):
        start, lamp = View([[(1, 0)]]), View([[(1, 0), (1, 1)], [(0, ((1, ONE),))]])
        facts = Facts(3, 1, 2)
        alone = ("same", ((1, -1),), 1)
        self.assert_raises(NoWorld, (), first_sure, [start, lamp], facts, alone)
        self.assert_raises(NoWorld, (), first_sure, [lamp], facts, TRUE)
        self.assert_same(first_sure([start, lamp], facts, TRUE), 0)
        self.assert_raises(NoWorld, (), find_sure, lamp, facts, TRUE)

    def test_a_run(self):
        run = Run([path_net(3, ONE)] * 6, [(1, 0), (0, 1), (0, 1)], Facts(4, 1, 2))
        views = [run.view_at(2)]
        for _ in walk_run(run, 6):
            views.append(run.view_at(2))
        first = first_sure(views, run.facts, ("same", ((1, 1),), 2))
        self.assertTrue(1 <= first <= 5)
        self.assertEqual(sure_counts(views[-1], run.facts), run.counts)


class ErrorsTest(HeardCase):
    def test_needs_sums_ahead_of_needs_most_ahead_of_no_world(self):
        lit = View([[(1, 0), (1, 1)], [(0, ((1, ONE),))]])
        for facts, error in ((Facts(None, hearing="which"), NeedsSums), (Facts(3, hearing="which"), NeedsSums),
                             (Facts(None), NeedsMost), (Facts(3, 1, 2), NoWorld)):
            self.assert_raises(error, (), find_sure, lit, facts, TRUE)
            self.assert_raises(error, (), first_sure, [lit], facts, TRUE)
            self.assert_raises(error, (), sure_counts, lit, facts)
            self.assert_raises(error, (), heads_left, lit, facts)

    def test_nothing_is_changed(self):
        view, facts = View(chain(1)), Facts(3, 0)
        saying = ["and", [["same", [[1, -1]], 1]]]
        self.assert_unchanged(lambda given: find_sure(view, facts, given), saying)
        views = [view]
        first_sure(views, facts, TRUE)
        self.assertEqual(len(views), 1)
        self.assertEqual(as_lists(view.levels), as_lists(View(chain(1)).levels))
