"""[10.1] and [10.7] to [10.9] Stopping."""

import itertools
import random

from headsheard.errors import BadHouses, NotNext, NotSame
from headsheard.facts import Facts
from headsheard.guesses import guess_counts
from headsheard.nets import Net, path_net
from headsheard.runs import Run
from headsheard.shortpapers import find_short, first_short, short_fault
from headsheard.stilllevels import still_levels, still_numbers
from headsheard.stopping import Stopper, latest_round
from headsheard.views import View
from helpers import NO_INTEGERS, HeardCase
from made_views import ONE, chain
from plain_levels import joined_runs, views_of_run
from test_guesses import all_joined


def state_of(stopper):
    paper = stopper.paper and stopper.paper.told
    return (stopper.seen, paper, stopper.stop, stopper.answer)


class LatestRoundTest(HeardCase):
    def test_rounds(self):
        self.assertEqual([latest_round(houses) for houses in range(1, 6)], [1, 3, 6, 9, 12])
        self.assertEqual(latest_round(10 ** 30), 3 * 10 ** 30 - 3)

    def test_bad_houses(self):
        for thing in NO_INTEGERS + (0, -1):
            self.assert_raises(BadHouses, (thing,), latest_round, thing)


class StopTogetherTest(HeardCase):
    def ask_rows(self, run, rows):
        """The stoppers at all houses stop in the told round with the true answer."""
        latest = latest_round(run.houses)
        stoppers = [Stopper() for _ in range(run.houses)]
        for number, row in enumerate(rows):
            expected = (latest, run.houses, run.counts) if number >= latest else None
            for house, stopper in enumerate(stoppers):
                told = stopper.look(row[house])
                self.assert_same(told, expected)
                self.assertEqual((stopper.seen, stopper.answer), (number + 1, expected))
                self.assertEqual(stopper.paper, first_short(row[house]))
                self.assertEqual(stopper.stop, latest if stopper.paper else None)
                if number >= latest:
                    self.assertIsNotNone(find_short(row[house]))
                if stopper.paper:
                    self.assertIsNone(short_fault(row[house], stopper.paper))

    def test_one_to_four_houses(self):
        for run, rounds in joined_runs(200, 60, rounds=lambda houses: 3 * houses, words=4):
            self.ask_rows(run, views_of_run(run, rounds))

    def test_all_rows_of_two_houses_and_some_of_three(self):
        nets = [Net(2, [(0, 1, ONE)] + echoes) for echoes in ([], [(0, 0, ONE)], [(1, 1, (1, 2))])]
        for row in itertools.product(nets, repeat=4):
            run = Run(row, [(1, 0), (0, 0)], Facts())
            self.ask_rows(run, views_of_run(run, 4))
        source = random.Random(201)
        for _ in range(60):
            run = Run([source.choice(all_joined(3)) for _ in range(7)], [(1, 0), (0, 0), (0, 0)], Facts())
            self.ask_rows(run, views_of_run(run, 7))

    def test_one_house(self):
        for net in (Net(1, []), Net(1, [(0, 0, (2, 3))])):
            run = Run([net] * 4, [(1, 3)], Facts(words=4))
            self.ask_rows(run, views_of_run(run, 4))

    def test_more_houses_in_a_row(self):
        for houses in (5, 7, 12):
            run = Run([path_net(houses, ONE)] * 34, [(0, 0)] * (houses - 1) + [(1, 0)], Facts())
            self.ask_rows(run, views_of_run(run, latest_round(houses) + 1))

    def test_example_of_the_document(self):
        run = Run([Net(2, [(0, 1, (3, 1))])] * 3, [(1, 0), (0, 0)], Facts())
        rows = views_of_run(run, 3)
        counts = (((0, 0), 1), ((1, 0), 1))
        for house in range(2):
            stopper = Stopper()
            self.assertEqual([stopper.look(rows[number][house]) for number in range(4)],
                             [None, None, None, (3, 2, counts)])
            self.assert_same(still_levels(rows[2][house]), (0,))
            self.assert_same(guess_counts(rows[2][house]), counts)
            self.assertIsNone(find_short(rows[2][house]))
            self.assert_same([still_numbers(rows[3][house], level) for level in (0, 1)][1], (1, 1))


class LookTest(HeardCase):
    def setUp(self):
        run = Run([path_net(2, ONE)] * 6, [(1, 0), (0, 0)], Facts())
        self.rows = views_of_run(run, 6)

    def test_a_new_stopper(self):
        self.assertEqual(state_of(Stopper()), (0, None, None, None))

    def test_not_next_and_not_same(self):
        stopper = Stopper()
        for number in range(7):
            before = state_of(stopper)
            for other in range(7):
                if other != number:
                    self.assert_raises(NotNext, (number,), stopper.look, self.rows[other][0])
                    self.assert_raises(NotNext, (number,), stopper.look, self.rows[other][1])
            if number:
                self.assert_raises(NotSame, (number,), stopper.look, self.rows[number][1])
                wrong = View(chain(number - 1) + [[(0, ((0, (9, 1)),))]])
                self.assert_raises(NotSame, (number,), stopper.look, wrong)
            self.assertEqual(state_of(stopper), before)
            expected = (3, 2, (((0, 0), 1), ((1, 0), 1))) if number >= 3 else None
            self.assertEqual(stopper.look(self.rows[number][0]), expected)

    def test_a_view_looked_at_twice_is_not_next(self):
        stopper = Stopper()
        stopper.look(self.rows[0][0])
        self.assert_raises(NotNext, (1,), stopper.look, self.rows[0][0])

    def test_a_house_without_a_paper_never_stops(self):
        stopper = Stopper()
        for number in range(37):
            self.assertIsNone(stopper.look(View(chain(number))))
        self.assertEqual(state_of(stopper), (37, None, None, None))

    def test_a_paper_that_is_found_late(self):
        lone = [[(1, 0)]]
        levels = lone + [[(0, ())]]
        stopper = Stopper()
        self.assertIsNone(stopper.look(View(lone)))
        self.assertEqual(stopper.look(View(levels)), (1, 1, (((1, 0), 1),)))
        nodes = [(0, ((1, (3, 1)),)), (1, ((0, (2, 1)),))]
        even = [(0, ((1, ONE),)), (1, ((0, ONE),))]
        levels = [[(0, 0), (1, 0)], nodes, nodes, nodes, nodes, even, even]
        views = [View([[(1, 0)]])]
        for number in range(1, 7):
            views.append(View(levels[:number] + [[levels[number][1]]]))
        views.append(View(levels + [[(1, ((0, ONE),))]]))
        stopper = Stopper()
        told = [stopper.look(view) for view in views]
        self.assertEqual(told, [None] * 7 + [(7, 2, (((0, 0), 1), ((1, 0), 1)))])
        self.assertEqual((stopper.paper.found, stopper.stop), (7, 7))

    def test_a_kept_paper_is_not_looked_for_again(self):
        stopper = Stopper()
        for number in range(4):
            stopper.look(self.rows[number][1])
        paper = stopper.paper
        for number in range(4, 7):
            stopper.look(self.rows[number][1])
            self.assertIs(stopper.paper, paper)
        self.assertEqual(paper.found, 3)
