"""[13.1], [13.3] to [13.9] Foils."""

import random
from fractions import Fraction

from headsheard.canon import counts_of_starts
from headsheard.errors import NeedsMost, NeedsSums, NoWorld
from headsheard.facts import Facts
from headsheard.foils import Foil, find_foil, foil_data, foil_fault, foil_of, round_net, seats_of, world_in
from headsheard.joined import is_joined
from headsheard.longpapers import LongPaper
from headsheard.nets import Net, complete_net, path_net
from headsheard.runs import Run, walk_run
from headsheard.sure import find_sure
from headsheard.views import View, view_of
from headsheard.worlds import World, world_fault
from helpers import NO_INTEGERS, NO_SEQUENCES, HeardCase, as_lists
from made_views import ONE, chain
from plain_levels import heard
from plain_worlds import plain_worlds, run_couples, some_saying, true_of, true_rows, world_couples
from standings import HEARINGS, Standings, joined_net, played, some_starts

LAMP = View([[(0, 0), (1, 0)], [(1, ((0, (3, 1)),))]])
TRUE = ("most", ((-1, -1),), 0)


def all_worlds(seed, many, most=6):
    """Triples (view, facts, world) of some of the worlds of small views."""
    source = random.Random(seed)
    for view, facts in world_couples(seed, many):
        worlds = plain_worlds(view, facts)
        for _, counts, rows in source.sample(worlds, min(most, len(worlds))):
            yield view, facts, World(rows, counts)


def links_of(net, house):
    """What a house hears of each house."""
    table = {}
    for i, j, strength in net.links:
        for one, other in {(i, j), (j, i)}:
            if one == house:
                table[other] = table.get(other, 0) + Fraction(*strength)
    return table


class SeatsTest(HeardCase):
    def test_against_a_second_reading(self):
        asked = 0
        for view, facts, world in all_worlds(1310, 100):
            seats = seats_of(view, world)
            self.assert_tuples(seats)
            self.assertEqual([len(row) for row in seats], [world.heads] * (view.round + 1))
            first = [node for node, number in enumerate(world.rows[0]) for _ in range(number)]
            self.assertEqual(list(seats[0]), first + [None] * (world.heads - len(first)))
            for level in range(view.round):
                self.assertEqual(list(seats[level + 1]), self.next_seats(view, level, seats[level], world))
            asked += 1
        self.assertGreater(asked, 120)

    def next_seats(self, view, level, seats, world):
        left = list(world.rows[level + 1])
        told = []
        for seat in seats:
            free = [child for child, (parent, _) in enumerate(view.levels[level + 1]) if parent == seat and left[child]]
            told.append(free[0] if free else None)
            if free:
                left[free[0]] -= 1
        self.assertEqual(set(left), {0})
        return told

    def test_example(self):
        world = World(((2, 1), (1,)), (((0, 0), 2), ((1, 0), 1)))
        self.assert_same(seats_of(LAMP, world), ((0, 0, 1), (None, None, 0)))
        net = round_net(LAMP, 0, seats_of(LAMP, world))
        self.assertEqual(links_of(net, 2), {0: Fraction(3, 2), 1: Fraction(3, 2)})

    def test_round_0(self):
        world = World(((2,),), (((0, 0), 2), ((1, 1), 2)))
        self.assert_same(seats_of(View([[(0, 0)]]), world), ((0, 0, None, None),))


class RoundNetTest(HeardCase):
    def assert_net(self, view, level, seats, net):
        houses = range(net.houses)
        here, later = seats[level], seats[level + 1]
        self.assertTrue(is_joined(net))
        self.assertEqual(net.houses, len(here))
        loudest = max((Fraction(*strength) for _, row in view.levels[level + 1] for _, strength in row), default=0)
        for house in houses:
            told = links_of(net, house)
            if later[house] is not None:
                for node in range(len(view.levels[level])):
                    asked = heard(view, level, later[house], node)
                    self.assertEqual(sum(told.get(other, 0) for other in houses if here[other] == node), asked)
                self.assertFalse([other for other in told if here[other] is None])
            elif here[house] is not None:
                own = sum(told.get(other, 0) for other in houses if here[other] == here[house])
                self.assertGreater(own, loudest)

    def test_what_the_houses_hear(self):
        asked = 0
        for view, _, world in all_worlds(1311, 110):
            seats = seats_of(view, world)
            for level in range(view.round):
                net = round_net(view, level, seats)
                self.assertIs(type(net), Net)
                self.assert_net(view, level, seats, net)
                asked += 1
        self.assertGreater(asked, 200)

    def test_worlds_of_eight_houses(self):
        source = random.Random(1312)
        for _ in range(6):
            houses = source.randrange(3, 9)
            starts = some_starts(source, houses, 3)
            history = played(starts, [joined_net(source, houses) for _ in range(source.randrange(1, 5))])
            house = source.randrange(houses)
            view = view_of(history, house)
            facts = Facts(8, 1, 3)
            found = find_sure(view, facts, ("same", ((1, -1),), houses))
            world = World(true_rows(history, house, history.round), counts_of_starts(starts))
            for one in [world] + ([found] if isinstance(found, World) else []):
                foil = foil_of(view, facts, one)
                self.assertIsNone(foil_fault(view, facts, None, foil))
                self.assertTrue(world_in(view, foil) == one)


class FoilOfTest(HeardCase):
    def test_foils_of_all_worlds(self):
        standings = Standings()
        asked = 0
        for view, facts, world in all_worlds(1313, 130, 12):
            foil = foil_of(view, facts, world)
            asked += 1
            self.assertIs(type(foil), Foil)
            self.assert_tuples(foil_data(foil))
            self.assertIs(type(foil.nets), tuple)
            self.assertIsNone(foil_fault(view, facts, None, foil))
            self.assertEqual(counts_of_starts(foil.starts), world.counts)
            seats = seats_of(view, world)
            self.assertEqual(foil.nets, tuple(round_net(view, level, seats) for level in range(view.round)))
            self.assertEqual(foil.house, seats[-1].index(0))
            self.assertEqual(list(foil.starts[sum(world.rows[0]):]), sorted(foil.starts[sum(world.rows[0]):]))
            # Played by a plain second reading, the house has the view and the numbers are those of the world.
            levels = standings.levels(foil.starts, foil.nets)
            number = levels[-1][foil.house]
            self.assertEqual(standings.view(number, view.round), view.levels)
            lots = standings.reached(number, view.round)
            _, place_of = standings.written(lots)
            for level, lot in enumerate(lots):
                told = [0] * len(lot)
                for one in lot:
                    told[place_of[one]] = levels[level].count(one)
                self.assertEqual(tuple(told), world.rows[level])
            self.assertTrue(world_in(view, foil) == world)
        self.assertGreater(asked, 250)

    def test_one_house(self):
        view = View([[(1, 2)]] + chain(3)[1:])
        world = World(((1,),) * 4, (((1, 2), 1),))
        foil = foil_of(view, Facts(5, 1, 3), world)
        self.assert_same(foil_data(foil), (((1, 2),), ((1, ()),) * 3, 0))
        self.assertIsNone(foil_fault(view, Facts(5, 1, 3), None, foil))

    def test_round_0(self):
        view = View([[(0, 1)]])
        world = World(((2,),), (((0, 0), 1), ((0, 1), 2), ((1, 0), 1)))
        foil = foil_of(view, Facts(5, 1, 2), world)
        self.assert_same(foil_data(foil), (((0, 1), (0, 1), (0, 0), (1, 0)), (), 0))
        self.assertIsNone(foil_fault(view, Facts(5, 1, 2), None, foil))
        self.assertTrue(world_in(view, foil) == world)

    def test_needs_sums(self):
        world = World(((2, 1), (1,)), (((0, 0), 2), ((1, 0), 1)))
        for facts in (Facts(3, hearing="which"), Facts(hearing="which")):
            self.assert_raises(NeedsSums, (), foil_of, LAMP, facts, world)
        # A most need not be told.
        self.assertIsNone(foil_fault(LAMP, Facts(), None, foil_of(LAMP, Facts(), world)))


class FoilsInRunsTest(HeardCase):
    def test_a_run_is_a_foil_of_each_of_its_views(self):
        source = random.Random(1314)
        for _ in range(25):
            houses = source.randrange(1, 6)
            starts = some_starts(source, houses, 3)
            nets = tuple(joined_net(source, houses) for _ in range(4))
            run = Run(nets, starts, Facts(6, 1, 3))
            for rounds in range(5):
                for house in range(houses):
                    foil = Foil(run.starts, run.course, house)
                    view = run.view_at(house)
                    self.assertIsNone(foil_fault(view, run.facts, None, foil))
                    world = world_in(view, foil)
                    self.assertTrue(world == World(true_rows(played(starts, nets[:rounds]), house, rounds), run.counts))
                    self.assertIsNone(world_fault(view, run.facts, world))
                if rounds < 4:
                    list(walk_run(run, 1))

    def test_foils_of_the_views_of_a_foils_own_houses(self):
        source = random.Random(1315)
        asked = 0
        for view, facts, world in all_worlds(1316, 40, 2):
            foil = foil_of(view, facts, world)
            history = played(foil.starts, foil.nets)
            for house in range(len(foil.starts)):
                other = view_of(history, house)
                again = world_in(other, Foil(foil.starts, foil.nets, house))
                self.assertIsNone(world_fault(other, facts, again))
                second = foil_of(other, facts, again)
                self.assertIsNone(foil_fault(other, facts, None, second))
                self.assertTrue(world_in(other, second) == again)
                asked += 1
            saying = some_saying(source, facts.words)
            found = find_foil(view_of(history, 0), facts, saying)
            self.assertEqual(found is None, isinstance(find_sure(view_of(history, 0), facts, saying), LongPaper))
        self.assertGreater(asked, 60)


class FindFoilTest(HeardCase):
    def test_none_exactly_if_the_saying_is_sure(self):
        source = random.Random(1317)
        told = {"sure": 0, "foil": 0, "none": 0}
        for view, facts in world_couples(1318, 130):
            worlds = plain_worlds(view, facts)
            for _ in range(4):
                saying = some_saying(source, facts.words)
                if not worlds:
                    self.assert_raises(NoWorld, (), find_foil, view, facts, saying)
                    told["none"] += 1
                    continue
                foil = find_foil(view, facts, saying)
                self.assertEqual(foil is None, all(true_of(saying, counts) for _, counts, _ in worlds))
                if foil is not None:
                    self.assertIsNone(foil_fault(view, facts, saying, foil))
                    self.assertFalse(true_of(saying, counts_of_starts(foil.starts)))
                    self.assertIsNone(world_fault(view, facts, world_in(view, foil)))
                told["sure" if foil is None else "foil"] += 1
        self.assertTrue(min(told.values()) > 60, told)

    def test_errors(self):
        lit = View([[(1, 0), (1, 1)], [(0, ((1, ONE),))]])
        for facts, error in ((Facts(None, hearing="which"), NeedsSums), (Facts(3, hearing="which"), NeedsSums),
                             (Facts(None), NeedsMost), (Facts(3, 1, 2), NoWorld)):
            self.assert_raises(error, (), find_foil, lit, facts, TRUE)


class FoilFaultTest(HeardCase):
    def setUp(self):
        self.facts = Facts(4, 1, 2)
        self.nets = (path_net(3, (3, 1)), complete_net(3, (1, 2), echo=ONE))
        self.starts = ((1, 0), (0, 1), (0, 0))
        self.view = view_of(played(self.starts, self.nets), 1)
        self.right = Foil(self.starts, self.nets, 1)

    def ask(self, fault, saying=None, view=None, facts=None, **told):
        foil = Foil(*[told.get(name, getattr(self.right, name)) for name in ("starts", "nets", "house")])
        self.assert_same(foil_fault(view or self.view, facts or self.facts, saying, foil), fault)

    def test_right(self):
        self.ask(None)
        self.ask(None, ("same", ((1, -1),), 4))
        self.ask(None, nets=list(self.nets), starts=as_lists(self.starts))

    def test_each_word(self):
        for wrong in (*NO_SEQUENCES, (), [], ((1, 0),) * 13, ((1, 0), (0, 4)), ((1, 0), (2, 0)), ((1, 0), 1)):
            self.ask("starts", starts=wrong)
        self.ask("most", starts=((1, 0),) + ((0, 0),) * 4)
        self.ask("lamps", starts=((0, 0),) * 3)
        self.ask("lamps", starts=((1, 0),) * 3)
        self.ask("words", starts=((1, 0), (0, 2), (0, 0)))
        for wrong in (*NO_SEQUENCES, (), self.nets[:1], self.nets + self.nets[:1], list(self.nets) * 20):
            self.ask("rounds", nets=wrong)
        self.ask("net", nets=(self.nets[0], path_net(2, ONE)))
        self.ask("net", nets=(self.nets[0], path_net(4, ONE)))
        self.ask("net", nets=(Net(3, [(0, 1, ONE)]), self.nets[1]))
        for wrong in (-1, 3, *NO_INTEGERS):
            self.ask("house", house=wrong)
        self.ask("view", house=0)
        self.ask("view", house=2)
        self.ask("view", nets=self.nets[::-1])
        self.ask("view", starts=((1, 0), (0, 0), (0, 0)))
        self.ask("saying", ("same", ((1, -1),), 3))
        self.ask("saying", ["same", [[1, 1]], 1])

    def test_the_first_in_the_told_order(self):
        saying = ("same", ((1, -1),), 3)
        five = ((0, 0), (0, 2), (1, 3), (1, 0), (0, 0))
        self.ask("starts", saying, starts=((1, 0), (0, 4)), nets=(), house=None)
        self.ask("most", saying, starts=five, nets=(), house=None)
        self.ask("lamps", saying, starts=five[:4], nets=(), house=None)
        self.ask("words", saying, starts=((1, 3),) + five[:1], nets=(), house=None)
        self.ask("rounds", saying, starts=self.starts[:2], nets=(), house=None)
        self.ask("net", saying, starts=self.starts[:2], house=None)
        self.ask("house", saying, nets=self.nets[::-1], house=None)
        self.ask("view", saying, nets=self.nets[::-1])

    def test_facts_of_all_kinds(self):
        # The view is that of the facts' hearing, and no most need be told.
        for hearing in HEARINGS:
            view = view_of(played(self.starts, self.nets, hearing), 1)
            for most in (None, 3, 12):
                self.ask(None, None, view, Facts(most, 1, 2, hearing))
            other = "which" if hearing == "sums" else "sums"
            self.ask("view", None, view, Facts(3, 1, 2, other))

    def test_a_view_of_round_0(self):
        view = View([[(0, 1)]])
        self.ask(None, None, view, nets=())
        self.ask("rounds", None, view)
        self.ask("view", None, View([[(1, 1)]]), nets=())


class FoilTest(HeardCase):
    def test_it_keeps_what_it_is_given(self):
        net = path_net(2, ONE)
        foil = Foil(((1, 0), (0, 0)), (net,), 1)
        self.assertEqual((foil.starts, foil.nets, foil.house), (((1, 0), (0, 0)), (net,), 1))
        self.assert_same(foil_data(foil), (((1, 0), (0, 0)), ((2, ((0, 1, ONE),)),), 1))
        self.assertEqual(Foil(None, 5, "x").nets, 5)

    def test_equality(self):
        foil = Foil(((1, 0), (0, 0)), (path_net(2, ONE),), 1)
        self.assertTrue(foil == Foil(((1, 0), (0, 0)), (path_net(2, ONE),), 1))
        for other in (Foil(((1, 0), (0, 1)), (path_net(2, ONE),), 1), Foil(((1, 0), (0, 0)), (path_net(2, (2, 1)),), 1),
                      Foil(((1, 0), (0, 0)), (path_net(2, ONE),), 0), foil_data(foil), None):
            self.assertFalse(foil == other)

    def test_nothing_is_changed(self):
        for view, facts in run_couples(1319, 6):
            for _, counts, rows in plain_worlds(view, facts)[:3]:
                world = World(rows, counts)
                before = (as_lists(view.levels), world.told)
                foil = foil_of(view, facts, world)
                data = foil_data(foil)
                foil_fault(view, facts, TRUE, foil)
                world_in(view, foil)
                seats_of(view, world)
                self.assertEqual((as_lists(view.levels), world.told), before)
                self.assertEqual(foil_data(foil), data)
        seats = [[0, 0, 1], [None, None, 0]]
        self.assert_unchanged(lambda given: round_net(LAMP, 0, given), seats)
