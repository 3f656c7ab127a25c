"""[8.1] and [8.4] to [8.10] Runs."""

import inspect
import random

from headsheard.canon import counts_of_starts
from headsheard.errors import BadFacts, BadStarts, BadView, NoHouse, NoNet, NotJoined, WrongNet
from headsheard.facts import Facts
from headsheard.histories import History
from headsheard.houses import House
from headsheard.joined import is_joined
from headsheard.netrows import NetRow, list_row
from headsheard.nets import Net, complete_net, path_net, ring_net
from headsheard.runs import (
    Run, alike_lots, first_unlike_level, history_of, same_for, stretch_run, walk_run)
from headsheard.stretches import fitting_sizes, stretched
from headsheard.views import View, earlier_view, view_of
from helpers import NO_INTEGERS, NO_SEQUENCES, HeardCase
from made_views import ONE, chain
from standings import HEARINGS, Standings, any_net, in_parts, joined_net, some_starts
from test_houses import lay, state_of

LAMP_AND_HOUSE = [(1, 0), (0, 0)]


def state_of_run(run):
    houses = [state_of(run.house_at(house)) for house in range(run.houses)]
    return (run.houses, run.starts, run.facts.told, run.counts, [net.told for net in run.course], run.round, houses)


def stretch_of_nets(source, houses, size):
    """So many nets that are joined together, though perhaps none of them is alone."""
    while True:
        nets = [any_net(source, houses) for _ in range(size - 1)]
        nets.insert(source.randrange(size), source.choice((any_net, joined_net))(source, houses))
        if is_joined(stretched(nets, size)[0]):
            return nets


def some_runs(seed, many, most=5, stretches=4):
    """Runs that are not played yet, with all of their nets: over lists of nets and over net rows."""
    source = random.Random(seed)
    for at in range(many):
        houses = source.randrange(1, most + 1)
        size = at % 3 + 1
        starts = some_starts(source, houses)
        nets = [net for _ in range(source.randrange(1, stretches + 1))
                for net in stretch_of_nets(source, houses, size)]
        facts = Facts(source.choice((None, houses, 12)), 1, 2, HEARINGS[at % 2], size)
        kind = source.randrange(4)
        given = (nets, tuple(nets), list_row(nets), list_row(nets, ever=True))[kind]
        rounds = len(nets) * 2 if kind == 3 else len(nets)
        yield Run(given, starts, facts), (nets + nets)[:rounds]


class PlayTest(HeardCase):
    def test_example_of_the_document(self):
        none, link = Net(2, []), Net(2, [(0, 1, (1, 2))])
        self.assertEqual(fitting_sizes([none, link, none, link, none]), (2, 3, 4, 5))
        run = Run([none, link, none], LAMP_AND_HOUSE, Facts(stretch=2))
        self.assertEqual(list(walk_run(run, 3)), [1, 2, 3])
        self.assert_same(run.view_at(1).levels, (((0, 0), (1, 0)), ((0, ((1, (1, 2)),)),)))
        self.assertEqual(run.house_at(1).amid, 1)
        self.assertEqual(stretch_run(run).round, 1)

    def test_ahead_of_round_1(self):
        facts = Facts(words=4)
        nets = [path_net(3, ONE)]
        run = Run(nets, [[0, 1], (1, 3), (0, 1)], facts)
        self.assertEqual(run.houses, 3)
        self.assert_same(run.starts, ((0, 1), (1, 3), (0, 1)))
        self.assertIs(run.facts, facts)
        self.assert_same(run.counts, (((0, 1), 2), ((1, 3), 1)))
        self.assert_same(run.course, ())
        self.assertEqual(run.round, 0)
        for house in range(3):
            self.assertEqual(run.view_at(house), View([[run.starts[house]]]))
            self.assertEqual(run.house_at(house), House(run.starts[house], facts))
        self.assertEqual(history_of(run).levels, History(run.starts).levels)
        self.assert_same(alike_lots(run), ((0, 2), (1,)))

    def test_views_are_those_of_the_history_at_each_round(self):
        for run, nets in some_runs(130, 90):
            size = run.facts.stretch
            plain = Standings()
            rows = plain.levels(run.starts, stretched(nets, size), run.facts.hearing)
            for number, net in enumerate(nets, 1):
                self.assertEqual(run.step(), number)
                self.assertEqual(run.round, number)
                self.assertIsInstance(run.course, tuple)
                self.assertEqual(run.course, tuple(nets[:number]))
                history = history_of(run)
                self.assertEqual((history.round, history.hearing), (number // size, run.facts.hearing))
                self.assertEqual(history.nets, stretched(nets[:number], size))
                for house in range(run.houses):
                    view = run.view_at(house)
                    self.assertEqual(view, view_of(history, house))
                    self.assert_same(view.levels, plain.view(rows[number // size][house], number // size))
                    own = run.house_at(house)
                    self.assertEqual((own.view, own.round, own.amid, own.start),
                                     (view, number, number % size, run.starts[house]))
            self.assertEqual(run.counts, counts_of_starts(run.starts))

    def test_views_are_one_exactly_if_standings_are(self):
        source = random.Random(131)
        for _ in range(25):
            plain, told = Standings(), []
            for _ in range(2):
                houses = source.randrange(1, 5)
                starts = some_starts(source, houses, 1)
                nets = [joined_net(source, houses, (ONE, (1, 2))) for _ in range(3)]
                run = Run(nets, starts, Facts())
                rows = plain.levels(starts, nets)
                for number in range(4):
                    told += [(standing, run.view_at(house)) for house, standing in enumerate(rows[number])]
                    if number < 3:
                        run.step()
            for standing, view in told:
                for other, seen in told:
                    self.assertIs(view == seen, standing == other)

    def test_nets_added_up_by_stretches_show_the_same_views(self):
        for run, nets in some_runs(132, 60):
            size = run.facts.stretch
            told = run.facts.told
            other = Run(stretched(nets, size), run.starts, Facts(told[0] or None, *told[1:4]))
            for number in walk_run(run, len(nets)):
                while other.round < number // size:
                    other.step()
                for house in range(run.houses):
                    self.assertEqual(run.view_at(house), other.view_at(house))

    def test_a_run_over_stretches_beside_the_run(self):
        for run, nets in some_runs(133, 60):
            for number in [0] + list(range(1, len(nets) + 1)):
                if number:
                    run.step()
                before = state_of_run(run)
                other = stretch_run(run)
                self.assertEqual(state_of_run(run), before)
                self.assertIs(type(other), Run)
                self.assertEqual((other.round, other.starts), (number // run.facts.stretch, run.starts))
                self.assertEqual(other.facts.told, run.facts.told[:4] + (1,))
                self.assertEqual(other.course, stretched(run.course, run.facts.stretch))
                for house in range(run.houses):
                    self.assertEqual(other.view_at(house), run.view_at(house))
                self.assert_raises(NoNet, (other.round + 1,), other.step)

    def test_parts_of_links_change_nothing(self):
        source = random.Random(134)
        for run, nets in some_runs(135, 40):
            houses = [House(start, run.facts) for start in run.starts]
            for net in nets:
                run.step()
                lay(houses, net, lambda letters: [(letter, part) for letter, strength in letters
                                                  for part in in_parts(source, strength)])
                self.assertEqual(houses, [run.house_at(house) for house in range(run.houses)])

    def test_houses_that_are_handed_out_are_their_own(self):
        for run, nets in some_runs(136, 40):
            for _ in walk_run(run, len(nets) - 1):
                pass
            before = state_of_run(run)
            for house in range(run.houses):
                own = run.house_at(house)
                own.hear([(own.letter(), (9, 1))])
                self.assertEqual(own.round, run.round + 1)
                self.assertEqual(state_of_run(run), before)
                self.assertEqual(run.house_at(house), run.house_at(house))
            run.step()

    def test_later_changes_to_what_is_passed_in_have_no_effect(self):
        nets, starts = [path_net(2, ONE)] * 2, [[1, 0], [0, 0]]
        run = Run(nets, starts, Facts())
        self.assertEqual((nets, starts), ([path_net(2, ONE)] * 2, [[1, 0], [0, 0]]))
        nets[1] = Net(2, [])
        nets.append(path_net(2, ONE))
        starts[0][0] = 0
        self.assertEqual(list(walk_run(run, 2)), [1, 2])
        self.assert_raises(NoNet, (3,), run.step)
        self.assert_same(run.starts, ((1, 0), (0, 0)))

    def test_twelve_houses_over_36_rounds(self):
        source = random.Random(137)
        nets = [joined_net(source, 12) for _ in range(36)]
        run = Run(nets, some_starts(source, 12), Facts(words=2))
        self.assertEqual(list(walk_run(run, 36)), list(range(1, 37)))
        history = history_of(run)
        for house in range(12):
            self.assertEqual(run.view_at(house), view_of(history, house))


class EndsTest(HeardCase):
    def assert_refused(self, error, attributes, run):
        before = state_of_run(run)
        for _ in range(2):
            self.assert_raises(error, attributes, run.step)
            self.assertEqual(state_of_run(run), before)

    def test_behind_the_last_net(self):
        for nets in ([], (), [path_net(2, ONE)] * 3, list_row([path_net(2, ONE)] * 3)):
            run = Run(nets, LAMP_AND_HOUSE, Facts())
            rounds = 3 if nets else 0
            self.assertEqual(list(walk_run(run, rounds)), list(range(1, rounds + 1)))
            self.assert_refused(NoNet, (rounds + 1,), run)

    def test_no_net_goes_ahead_of_all_else(self):
        run = Run([Net(2, [])], LAMP_AND_HOUSE, Facts(stretch=2))
        run.step()
        self.assert_refused(NoNet, (2,), run)
        run = Run([path_net(2, ONE)] * 36, LAMP_AND_HOUSE, Facts())
        self.assertEqual(list(walk_run(run, 36))[-1], 36)
        self.assert_refused(NoNet, (37,), run)

    def test_not_joined(self):
        none, link = Net(2, [(0, 0, ONE)]), path_net(2, ONE)
        run = Run([link, none, link], LAMP_AND_HOUSE, Facts())
        run.step()
        self.assert_refused(NotJoined, (2,), run)
        run = Run([none, link, none, none, link], LAMP_AND_HOUSE, Facts(stretch=2))
        self.assertEqual(list(walk_run(run, 3)), [1, 2, 3])
        self.assert_refused(NotJoined, (4,), run)
        self.assertEqual(run.house_at(0).amid, 1)
        run = Run([Net(3, [(0, 1, ONE)]), Net(3, [(1, 2, ONE)]), Net(3, [])] * 2, [(0, 0), (0, 0), (1, 0)],
                  Facts(stretch=3))
        self.assertEqual(list(walk_run(run, 6)), [1, 2, 3, 4, 5, 6])

    def test_a_stretch_longer_than_the_nets(self):
        run = Run([Net(2, [])] * 3, LAMP_AND_HOUSE, Facts(stretch=12))
        self.assertEqual(list(walk_run(run, 3)), [1, 2, 3])
        self.assertEqual((run.view_at(0).round, run.house_at(0).amid, stretch_run(run).round), (0, 3, 0))
        self.assert_refused(NoNet, (4,), run)
        row = list_row([Net(2, []), path_net(2, (1, 3))], ever=True)
        run = Run(row, LAMP_AND_HOUSE, Facts(stretch=12))
        self.assertEqual(list(walk_run(run, 25))[-1], 25)
        self.assertEqual(run.view_at(0).levels[2], ((1, ((0, (2, 1)),)),))

    def test_the_37th_view_level(self):
        for stretch in (1, 2):
            run = Run(list_row([path_net(2, ONE)], ever=True), LAMP_AND_HOUSE, Facts(stretch=stretch))
            last = 37 * stretch
            self.assertEqual(list(walk_run(run, last - 1)), list(range(1, last)))
            self.assertEqual(run.view_at(0).round, 36)
            self.assert_refused(BadView, ("levels", 0, 0), run)
        nets = [path_net(2, ONE)] * 36 + [Net(2, [])]
        run = Run(nets, LAMP_AND_HOUSE, Facts())
        list(walk_run(run, 36))
        self.assert_refused(NotJoined, (37,), run)

    def test_endless_net_rows(self):
        row = NetRow([("A", path_net(3, ONE))], ("ever", 1, ("net", "A")))
        run = Run(row, [(1, 0), (0, 0), (0, 0)], Facts())
        self.assertEqual(list(walk_run(run, 30))[-1], 30)
        self.assertEqual(run.course, row.nets_to(30))

    def test_one_house(self):
        run = Run([Net(1, []), Net(1, [(0, 0, (1, 2))])], [(1, 3)], Facts(1, 1, 4))
        self.assertEqual(list(walk_run(run, 2)), [1, 2])
        self.assert_same(run.view_at(0).levels, (((1, 3),), ((0, ()),), ((0, ((0, (1, 2)),)),)))
        self.assert_same(alike_lots(run), ((0,),))


class WalkTest(HeardCase):
    def test_a_generator(self):
        self.assertTrue(inspect.isgeneratorfunction(walk_run))
        run = Run([path_net(2, ONE)] * 4, LAMP_AND_HOUSE, Facts())
        walk = walk_run(run, 3)
        self.assertEqual(run.round, 0)
        self.assertEqual(next(walk), 1)
        self.assertEqual(run.round, 1)
        self.assertEqual(list(walk), [2, 3])
        self.assertEqual(list(walk_run(run, 0)), [])
        self.assertEqual(run.round, 3)

    def test_rounds_ahead_of_an_error_stay_played(self):
        run = Run([path_net(2, ONE)] * 2, LAMP_AND_HOUSE, Facts())
        walk = walk_run(run, 5)
        self.assertEqual([next(walk), next(walk)], [1, 2])
        self.assert_raises(NoNet, (3,), next, walk)
        self.assertEqual((run.round, len(run.course)), (2, 2))
        run = Run([path_net(2, ONE), Net(2, []), path_net(2, ONE)], LAMP_AND_HOUSE, Facts())
        self.assert_raises(NotJoined, (2,), list, walk_run(run, 3))
        self.assertEqual((run.round, run.view_at(0).round), (1, 1))
        self.assert_raises(NotJoined, (2,), list, walk_run(run, 3))


class NewRunTest(HeardCase):
    def test_bad_starts(self):
        for thing in NO_SEQUENCES + ([], [(0, 0)] * 13):
            self.assert_raises(BadStarts, ("many", 0), Run, [path_net(3, ONE)], thing, Facts())
        self.assert_raises(BadStarts, ("start", 1), Run, [path_net(3, ONE)], [(0, 0), None], Facts())
        self.assert_raises(BadStarts, ("lit", 0), Run, [path_net(3, ONE)], [(True, 0)], Facts())
        self.assert_raises(BadStarts, ("word", 0), Run, [path_net(3, ONE)], [(1, 4)], Facts())

    def test_bad_facts(self):
        nets = [path_net(3, ONE)]
        for starts, facts, what in ((LAMP_AND_HOUSE, Facts(most=1), "most"), (LAMP_AND_HOUSE, Facts(lamps=2), "lamps"),
                                    ([(0, 1)], Facts(), "lamps"), ([(1, 1), (0, 0)], Facts(), "words"),
                                    ([(0, 1), (0, 0)], Facts(most=1), "most")):
            self.assert_raises(BadFacts, (what,), Run, nets, starts, facts)

    def test_wrong_nets(self):
        right, wrong = path_net(2, ONE), path_net(3, ONE)
        for nets in ([wrong], [right, wrong, path_net(4, ONE)], (right, wrong), list_row([wrong]),
                     list_row([wrong], ever=True)):
            self.assert_raises(WrongNet, (3,), Run, nets, LAMP_AND_HOUSE, Facts())
        self.assert_raises(WrongNet, (4,), Run, [path_net(4, ONE), wrong], LAMP_AND_HOUSE, Facts())

    def test_facts_without_lamps_or_with_several(self):
        run = Run([path_net(2, ONE)], [(0, 0), (0, 1)], Facts(lamps=0, words=2))
        self.assertEqual(run.step(), 1)
        run = Run([path_net(2, ONE)], [(1, 0), (1, 1)], Facts(2, 2, 2))
        self.assertEqual(run.step(), 1)

    def test_no_house(self):
        run = Run([path_net(2, ONE)], LAMP_AND_HOUSE, Facts())
        other = Run([path_net(3, ONE)], [(1, 0), (0, 0), (0, 0)], Facts())
        for thing in NO_INTEGERS + (-1, 2):
            for function in (run.view_at, run.house_at):
                self.assert_raises(NoHouse, (thing,), function, thing)
            for function in (same_for, first_unlike_level):
                self.assert_raises(NoHouse, (thing,), function, run, thing, other, 2)
                self.assert_raises(NoHouse, (thing,), function, run, thing, other, 9)
                self.assert_raises(NoHouse, (thing,), function, other, 2, run, thing)


class AlikeTest(HeardCase):
    def test_alike_lots(self):
        for run, nets in some_runs(138, 60):
            plain = Standings()
            rows = plain.levels(run.starts, stretched(nets, run.facts.stretch), run.facts.hearing)
            before = (tuple(range(run.houses)),)
            for number in range(len(nets) + 1):
                if number:
                    run.step()
                row = rows[number // run.facts.stretch]
                lots = {}
                for house, standing in enumerate(row):
                    lots[standing] = lots.get(standing, ()) + (house,)
                found = alike_lots(run)
                self.assert_same(found, tuple(sorted(lots.values())))
                for lot in found:
                    self.assertEqual(len([old for old in before if set(lot) <= set(old)]), 1)
                before = found

    def test_same_houses_and_first_unlike_levels(self):
        source = random.Random(139)
        for _ in range(30):
            runs = []
            for _ in range(2):
                houses = source.randrange(2, 5)
                facts = Facts(stretch=source.randrange(1, 3), hearing=source.choice(HEARINGS), most=None)
                nets = [joined_net(source, houses, (ONE, (1, 2))) for _ in range(5)]
                run = Run(nets, some_starts(source, houses, 1), facts)
                list(walk_run(run, source.randrange(6)))
                runs.append(run)
            for run in runs:
                for other in runs:
                    for house in range(run.houses):
                        for other_house in range(other.houses):
                            self.ask(run, house, other, other_house)

    def ask(self, run, house, other, other_house):
        one, two = run.house_at(house), other.house_at(other_house)
        self.assertIs(same_for(run, house, other, other_house), one == two)
        levels = range(min(one.view.round, two.view.round) + 1)
        unlike = [level for level in levels if earlier_view(one.view, level) != earlier_view(two.view, level)]
        self.assertEqual(first_unlike_level(run, house, other, other_house), unlike[0] if unlike else None)
        self.assertEqual(unlike, list(levels)[len(levels) - len(unlike):])

    def test_the_same_in_runs_of_unlike_numbers_of_houses(self):
        small = Run([complete_net(2, ONE)] * 3, LAMP_AND_HOUSE, Facts())
        lamp = [(0, 1, ONE), (2, 3, ONE)]
        great = Run([Net(4, lamp + [(0, 2, ONE)])] * 3, LAMP_AND_HOUSE * 2, Facts(lamps=2))
        list(walk_run(small, 3))
        list(walk_run(great, 3))
        self.assertEqual(first_unlike_level(small, 1, great, 1), 2)
        self.assertEqual(first_unlike_level(small, 1, great, 0), 0)
        self.assertIs(same_for(small, 1, great, 1), False)
        self.assertEqual(first_unlike_level(small, 0, small, 0), None)
        self.assertIs(same_for(small, 0, small, 0), True)

    def test_unlike_facts_or_waiting_alone_make_houses_unlike(self):
        runs = [Run([Net(2, [(0, 0, (worth, 1))]), path_net(2, ONE)], LAMP_AND_HOUSE, Facts(stretch=2, most=most))
                for worth, most in ((1, None), (2, None), (1, 2))]
        for run in runs:
            run.step()
        for other in runs[1:]:
            self.assertIs(same_for(runs[0], 0, other, 0), False)
            self.assertIsNone(first_unlike_level(runs[0], 0, other, 0))
        self.assertIs(same_for(runs[0], 1, runs[1], 1), True)

    def test_a_house_in_another_ones_place(self):
        source = random.Random(140)
        tried = 0
        for _ in range(80):
            houses, size = source.randrange(2, 6), source.randrange(1, 3)
            starts = some_starts(source, houses, 1)
            facts = Facts(stretch=size)
            nets = [ring_net(houses, ONE)] * 2
            nets += [net for _ in range(3) for net in stretch_of_nets(source, houses, size)]
            run, other = Run(nets, starts, facts), Run(nets, starts, facts)
            list(walk_run(run, 2 * (size == 2) + 1))
            list(walk_run(other, run.round))
            for house in range(houses):
                for place in range(houses):
                    if house == place or not same_for(other, house, run, place):
                        continue
                    tried += 1
                    lot = [run.house_at(one) for one in range(houses)]
                    changed = list(lot)
                    changed[place] = other.house_at(house)
                    lot = [one.copied() for one in lot]
                    for net in nets[run.round:]:
                        lay(lot, net)
                        lay(changed, net)
                        self.assertEqual(changed, lot)
        self.assertGreater(tried, 20)


class LongTest(HeardCase):
    def test_views_of_a_lone_house(self):
        run = Run(list_row([Net(1, [])], ever=True), [(0, 0)], Facts(lamps=0))
        list(walk_run(run, 36))
        self.assertEqual(run.view_at(0), View(chain(36)))
