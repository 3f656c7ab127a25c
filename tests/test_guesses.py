"""[9.1] and [9.9] to [9.11] Guesses."""

import itertools
import random

from headsheard.canon import counts_of_starts, least_counts
from headsheard.errors import BadHouses, BadLamps
from headsheard.facts import Facts
from headsheard.guesses import find_shares, first_still, guess_counts, seen_starts, surely_from, words_from
from headsheard.histories import History
from headsheard.nets import Net, path_net
from headsheard.runs import Run, walk_run
from headsheard.stilllevels import still_fault, still_numbers
from headsheard.views import View, view_of
from helpers import NO_INTEGERS, HeardCase
from made_views import ONE, chain
from plain_levels import any_views, plain_counts, plain_numbers, plain_still, views_of_run
from standings import HEARINGS, joined_net


def all_joined(houses):
    """All joined nets of so many houses with links of strength 1."""
    pairs = list(itertools.combinations(range(houses), 2))
    nets = [Net(houses, [(i, j, ONE) for i, j in kept])
            for many in range(houses - 1, len(pairs) + 1) for kept in itertools.combinations(pairs, many)]
    return [net for net in nets if len({house for i, j, _ in net.links for house in (i, j)} | {0}) == houses]


def any_starts(source, houses):
    return [(source.randrange(2), source.randrange(source.choice((1, 2, 4)))) for _ in range(houses)]


class ExampleTest(HeardCase):
    def test_example_of_the_document(self):
        run = Run([path_net(3, ONE)] * 3, [(1, 0), (0, 0), (0, 0)], Facts())
        list(walk_run(run, 2))
        view = run.view_at(0)
        self.assertEqual(len(view.levels[1]), 2)
        self.assert_same(still_numbers(view, 0), (1, 1))
        self.assert_same(guess_counts(view), (((0, 0), 1), ((1, 0), 1)))
        run.step()
        self.assertEqual(still_fault(run.view_at(0), 0), "children")


class SurelyTest(HeardCase):
    def ask_run(self, nets, starts):
        """Guesses, shares and seen starts are right at each house from the told rounds on."""
        houses, lamps = len(starts), sum(lit for lit, _ in starts)
        run = Run(nets, starts, Facts(lamps=lamps, words=4))
        counts = counts_of_starts(starts)
        surely = surely_from(houses, len(counts))
        for number, row in enumerate(views_of_run(run, len(nets))):
            for view in row:
                if number >= max(1, 2 * houses - len(counts)):
                    self.assertGreaterEqual(number, surely)
                    self.assert_same(find_shares(view), least_counts(counts))
                    if lamps:
                        self.assert_same(guess_counts(view, lamps), counts)
                        self.assertIsNotNone(first_still(view, lamps))
                if number >= words_from(houses):
                    self.assert_same(seen_starts(view), tuple(start for start, _ in counts))

    def test_every_row_of_joined_nets_tried(self):
        source = random.Random(170)
        for _ in range(150):
            houses = source.randrange(1, 6)
            strengths = source.choice(((ONE,), (ONE, (1, 2)), ((2, 3), (5, 7), (1, 4), (3, 1))))
            nets = [joined_net(source, houses, strengths) for _ in range(2 * houses + 1)]
            if source.randrange(2):
                nets = [source.choice(nets[:2]) for _ in nets]
            self.ask_run(nets, any_starts(source, houses))

    def test_all_rows_of_few_houses(self):
        for houses in (1, 2, 3):
            for nets in itertools.product(all_joined(houses), repeat=2 * houses - 1):
                self.ask_run(nets, [(1, 0)] + [(0, 0)] * (houses - 1))

    def test_long_paths(self):
        for houses in range(1, 9):
            nets = [path_net(houses, ONE)] * (2 * houses)
            self.ask_run(nets, [(1, 0)] + [(0, 0)] * (houses - 1))
            self.ask_run(nets, [(0, 0)] * houses)

    def test_twelve_houses(self):
        source = random.Random(171)
        nets = [joined_net(source, 12) for _ in range(24)]
        self.ask_run(nets, [(1, 0)] * 2 + [(0, source.randrange(4)) for _ in range(10)])

    def test_seen_starts_of_hearing_which(self):
        source = random.Random(172)
        for _ in range(60):
            houses = source.randrange(1, 6)
            starts = any_starts(source, houses)
            history = History(starts, "which")
            for number in range(houses + 2):
                if number >= words_from(houses):
                    for house in range(houses):
                        self.assert_same(seen_starts(view_of(history, house)), tuple(sorted(set(starts))))
                history.add(joined_net(source, houses))


class WordsTest(HeardCase):
    def test_against_their_words(self):
        told = {True: 0, False: 0}
        for view in any_views(173, 120):
            for lamps in (1, 2, 5):
                still = [level for level in range(view.round) if plain_numbers(view, level, lamps)]
                told[bool(still)] += 1
                self.assertEqual(first_still(view, lamps), still[0] if still else None)
                expected = plain_counts(view, still[0], plain_numbers(view, still[0], lamps)) if still else None
                self.assert_same(guess_counts(view, lamps), expected)
            self.assertEqual((first_still(view), guess_counts(view)), (first_still(view, 1), guess_counts(view, 1)))
            least = [plain_still(view, level)[1] for level in range(view.round)]
            levels = [level for level, numbers in enumerate(least) if numbers]
            expected = least_counts(plain_counts(view, levels[0], least[levels[0]])) if levels else None
            self.assert_same(find_shares(view), expected)
            self.assert_same(seen_starts(view), view.levels[0])
        self.assertTrue(min(told.values()) > 100)

    def test_shares_may_come_of_an_earlier_level(self):
        nodes = [(0, ((1, (3, 1)),)), (1, ((0, (2, 1)),))]
        view = View([[(0, 0), (1, 0)], nodes, [(0, ((1, ONE),)), (1, ((0, ONE),))], [(0, ((1, ONE),))]])
        self.assert_same(find_shares(view), (((0, 0), 2), ((1, 0), 3)))
        self.assertEqual(first_still(view), 1)
        self.assert_same(guess_counts(view), (((0, 0), 1), ((1, 0), 1)))
        self.assert_same(guess_counts(view, 3), (((0, 0), 2), ((1, 0), 3)))

    def test_shares_are_divided(self):
        nodes = [(0, ((1, ONE),)), (0, ((1, ONE), (2, ONE))), (1, ((0, ONE), (1, ONE)))]
        levels = [[(0, 0), (1, 0)], [(0, ((1, ONE),)), (0, ((1, (2, 1)),)), (1, ((0, ONE),))]]
        levels += [[(0, ((2, ONE),)), (1, ((2, ONE),)), (2, ((0, (1, 2)), (1, (1, 2))))], [(0, ((1, ONE), (2, ONE)))]]
        view = View(levels)
        self.assertEqual(len(nodes), len(view.levels[1]))
        self.assert_same(find_shares(view), (((0, 0), 1), ((1, 0), 1)))

    def test_round_0(self):
        view = View([[(1, 2)]])
        self.assertIsNone(first_still(view))
        self.assertIsNone(guess_counts(view))
        self.assertIsNone(find_shares(view))
        self.assert_same(seen_starts(view), ((1, 2),))

    def test_one_house(self):
        for hearing in HEARINGS:
            history = History([(1, 3)], hearing)
            history.add(Net(1, []))
            view = view_of(history, 0)
            self.assertEqual((first_still(view), guess_counts(view), find_shares(view)),
                             (0, (((1, 3), 1),), (((1, 3), 1),)))
        self.assert_same(guess_counts(view, 12), (((1, 3), 12),))

    def test_no_lamp(self):
        self.assertIsNone(guess_counts(View(chain(3))))
        self.assert_same(find_shares(View(chain(3))), (((0, 0), 1),))

    def test_bad_lamps(self):
        for view in (View(chain(0)), View(chain(2))):
            for thing in NO_INTEGERS + (0, -1, 13):
                self.assert_raises(BadLamps, (thing,), first_still, view, thing)
                self.assert_raises(BadLamps, (thing,), guess_counts, view, thing)


class RoundsTest(HeardCase):
    def test_rounds(self):
        self.assertEqual([surely_from(houses) for houses in range(1, 7)], [1, 2, 4, 6, 8, 10])
        self.assertEqual([surely_from(6, starts) for starts in range(1, 7)], [11, 10, 9, 8, 7, 6])
        self.assertEqual([surely_from(1, 1), surely_from(1, 2), surely_from(2, 1), surely_from(2, 2)], [1, 1, 3, 2])
        self.assertEqual([words_from(houses) for houses in (1, 2, 12, 10 ** 30)], [0, 1, 11, 10 ** 30 - 1])
        self.assertEqual(surely_from(10 ** 30, 10 ** 30), 10 ** 30)

    def test_bad_houses(self):
        for thing in NO_INTEGERS + (0, -1):
            self.assert_raises(BadHouses, (thing,), surely_from, thing)
            self.assert_raises(BadHouses, (thing,), surely_from, thing, None)
            self.assert_raises(BadHouses, (thing,), words_from, thing)
            self.assert_raises(BadHouses, (thing,), surely_from, 5, thing)
        for houses, starts in ((1, 3), (2, 3), (3, 4), (12, 13)):
            self.assert_raises(BadHouses, (starts,), surely_from, houses, starts)
