"""[14.6] to [14.10] Twins."""

import random
from math import gcd

from headsheard.canon import counts_of_starts, heads_of, least_counts, lit_of
from headsheard.datatext import data_text
from headsheard.errors import BadCounts, BadTwins
from headsheard.nets import Net, complete_net, path_net, ring_net
from headsheard.tellers import Teller
from headsheard.twins import Side, Twins, alike_until, multiplied, set_twins, share_twins, twin_lie, twins_fault
from headsheard.views import view_of
from helpers import NO_INTEGERS, NO_SEQUENCES, HeardCase
from made_views import ONE
from plain_worlds import some_saying, true_of
from standings import HEARINGS, Standings, any_net, joined_net, played

EXAMPLE = (((0, 0), 1), ((0, 1), 2))


def rows_of(twins, hearing, rounds):
    """For each round the standings of both sides by a plain second reading."""
    standings = Standings()
    sides = [standings.levels(side.starts, [side.net] * rounds, hearing) for side in (twins.one, twins.other)]
    return list(zip(*sides))


def plain_fault(twins, hearing, rounds):
    for number, rows in enumerate(rows_of(twins, hearing, rounds)):
        for side in range(2):
            for house, standing in enumerate(rows[side]):
                if standing not in rows[1 - side]:
                    return (number, side, house)
    return None


def some_counts(source, most=12, lit=False):
    starts = [(0, word) for word in range(4)] + [(1, word) for word in range(4)] * lit
    chosen = sorted(source.sample(starts, source.randrange(1, min(4, most + 1))))
    numbers = [source.randrange(1, 1 + most // len(chosen)) for _ in chosen]
    return tuple(zip(chosen, numbers))


def some_twins(source):
    """Twins that may be unlike: copies of one side, a side with another net or with other starts."""
    houses = source.randrange(1, 6)
    starts = tuple((0, source.randrange(2)) for _ in range(houses))
    net = source.choice((any_net, joined_net))(source, houses)
    kind = source.randrange(5)
    if kind == 4:
        return Twins(*[Side(((0, 0),) * many, path_net(many, ONE)) for many in (houses + 1, source.randrange(2, 9))])
    if kind == 0:
        links = net.links + tuple((i + houses, j + houses, strength) for i, j, strength in net.links)
        return Twins(Side(starts, net), Side(starts * 2, Net(2 * houses, links)))
    if kind == 1:
        return Twins(Side(starts, net), Side(starts, any_net(source, houses)))
    if kind == 2:
        other = tuple((0, word) if source.randrange(4) else (0, 1 - word) for _, word in starts)
        return Twins(Side(starts, net), Side(other, net))
    return Twins(Side(((0, 0),) * houses, ring_net(houses, ONE)), Side(((0, 0),) * 5, ring_net(5, ONE)))


class PlayTest(HeardCase):
    def test_against_a_second_reading(self):
        source = random.Random(1420)
        told = {}
        for _ in range(300):
            twins = some_twins(source)
            for hearing in HEARINGS:
                fault = plain_fault(twins, hearing, 40)
                self.assert_same(alike_until(twins, hearing), fault and fault[0])
                rounds = source.randrange(0, 8)
                short = fault if fault and fault[0] <= rounds else None
                self.assert_same(twins_fault(twins, hearing, rounds), short)
                if fault is None:
                    self.assertIsNone(twins_fault(twins, hearing, 60))
                told[fault and fault[0]] = told.get(fault and fault[0], 0) + 1
        self.assertTrue(told[None] > 50 and told[0] > 20 and told[1] > 20 and told[2] > 10, told)

    def test_sides_that_part_at_a_told_round(self):
        # In a row of houses that all stand alike at first, the end is known to the k-th house in round k + 1.
        for houses in range(2, 7):
            for more in range(1, 4):
                one = Side(((0, 0),) * (2 * houses), path_net(2 * houses, ONE))
                other = Side(((0, 0),) * (2 * houses + more), path_net(2 * houses + more, ONE)) \
                    if 2 * houses + more <= 12 else None
                if other:
                    fault = plain_fault(Twins(one, other), "sums", 30)
                    self.assertEqual(fault[0], houses)
                    for hearing in HEARINGS:
                        expected = plain_fault(Twins(one, other), hearing, 30)
                        self.assert_same(alike_until(Twins(one, other), hearing), expected and expected[0])
                        self.assert_same(twins_fault(Twins(one, other), hearing, 30), expected)
                        self.assert_same(twins_fault(Twins(other, one), hearing, 30),
                                         plain_fault(Twins(other, one), hearing, 30))
                    self.assertIsNone(twins_fault(Twins(one, other), "sums", houses - 1))
                    self.assert_same(twins_fault(Twins(one, other), "sums", houses), fault)

    def test_a_long_time(self):
        # Twelve houses in a row beside a ring: the last house to hear of an end is a middle one.
        row = Side(((0, 0),) * 12, path_net(12, ONE))
        ring = Side(((0, 0),) * 12, ring_net(12, ONE))
        self.assert_same(alike_until(Twins(row, ring), "sums"), 1)
        lit = Side(((1, 0),) + ((0, 0),) * 11, path_net(12, ONE))
        for other in (row, ring):
            self.assert_same(alike_until(Twins(lit, other), "which"), 0)
        self.assertIsNone(alike_until(Twins(row, ring), "which"))
        self.assertIsNone(alike_until(Twins(lit, lit), "sums"))

    def test_which_hears_no_sums(self):
        one, other = Side(((0, 0),) * 2, path_net(2, ONE)), Side(((0, 0),) * 2, path_net(2, (2, 1)))
        self.assertEqual(alike_until(Twins(one, other), "sums"), 1)
        self.assertIsNone(alike_until(Twins(one, other), "which"))

    def test_nets_that_are_not_joined(self):
        one, other = Side(((0, 0), (0, 1)), Net(2, [])), Side(((0, 0), (0, 0), (0, 1)), Net(3, [(0, 1, ONE)]))
        self.assert_same(twins_fault(Twins(one, other), "sums", 5), (1, 0, 0))
        self.assertIsNone(alike_until(Twins(one, Side(((0, 1), (0, 1), (0, 0)), Net(3, []))), "sums"))

    def test_the_least_side_then_the_least_house(self):
        one, other = Side(((0, 0), (0, 1)), Net(2, [])), Side(((0, 0), (0, 2), (0, 3)), Net(3, []))
        self.assert_same(twins_fault(Twins(one, other), "sums", 0), (0, 0, 1))
        one = Side(((0, 0), (0, 0)), Net(2, []))
        self.assert_same(twins_fault(Twins(one, other), "which", 9), (0, 1, 1))

    def test_starts_as_lists(self):
        one, other = Side([[0, 0], [0, 1]], Net(2, [])), Side(((0, 0), (0, 1)), Net(2, []))
        self.assertIsNone(alike_until(Twins(one, other), "sums"))


class ShareTwinsTest(HeardCase):
    def test_for_any_two_counts_with_the_same_shares(self):
        source = random.Random(1421)
        for _ in range(80):
            shares = least_counts(some_counts(source))
            most = 12 // heads_of(shares)
            one, other = [tuple((start, number * factor) for start, number in shares)
                          for factor in (source.randrange(1, most + 1), source.randrange(1, most + 1))]
            twins = share_twins(source.sample(one, len(one)), [list(entry) for entry in other])
            self.assertIs(type(twins), Twins)
            for side, counts in ((twins.one, one), (twins.other, other)):
                self.assertIs(type(side), Side)
                self.assert_same(side.starts, tuple(start for start, number in counts for _ in range(number)))
                divisor = gcd(*[number for _, number in counts])
                houses = heads_of(counts)
                self.assertEqual(side.net, complete_net(houses, (1, divisor), echo=(1, divisor)))
                self.assertEqual(counts_of_starts(side.starts), counts)
            self.assertIsNone(alike_until(twins, "sums"))
            self.assertIsNone(alike_until(twins, "which"))
            self.assertIsNone(plain_fault(twins, "sums", 6))

    def test_example(self):
        twins = multiplied(EXAMPLE, 2)
        self.assert_same(twins.one.starts, ((0, 0), (0, 1), (0, 1)))
        self.assert_same(twins.other.starts, ((0, 0),) * 2 + ((0, 1),) * 4)
        self.assertEqual({strength for _, _, strength in twins.one.net.links}, {ONE})
        self.assertEqual({strength for _, _, strength in twins.other.net.links}, {(1, 2)})
        for side in (twins.one, twins.other):
            levels = played(side.starts, [side.net]).levels
            self.assertEqual(levels[1], tuple((number, ((0, ONE), (1, (2, 1)))) for number in range(2)))
        self.assertIsNone(alike_until(twins, "sums"))
        self.assertIsNone(twins_fault(twins, "sums", 60))

    def test_one_and_twelve_houses(self):
        twins = multiplied((((0, 3), 1),), 12)
        self.assertEqual((len(twins.one.starts), len(twins.other.starts)), (1, 12))
        self.assert_same(twins.one.net.links, ((0, 0, ONE),))
        self.assertIsNone(alike_until(twins, "sums"))
        self.assert_raises(BadTwins, ("many",), multiplied, (((0, 3), 1),), 13)

    def test_multiplied(self):
        self.assertTrue(multiplied(EXAMPLE, 3) == share_twins(EXAMPLE, (((0, 0), 3), ((0, 1), 6))))
        self.assertTrue(multiplied([[[0, 1], 2], [[0, 0], 1]], 1) == share_twins(EXAMPLE, EXAMPLE))
        for times in (0, -1, *NO_INTEGERS):
            self.assert_raises(BadTwins, ("times",), multiplied, EXAMPLE, times)
            self.assert_raises(BadTwins, ("times",), multiplied, (), times)
            self.assert_raises(BadTwins, ("times",), multiplied, (((1, 0), 20),), times)
            self.assert_raises(BadCounts, ("shape",), multiplied, None, times)
        self.assert_raises(BadTwins, ("empty",), multiplied, (), 2)
        self.assert_raises(BadTwins, ("lamps",), multiplied, (((1, 0), 2),), 2)
        self.assert_raises(BadTwins, ("many",), multiplied, (((1, 0), 2),), 7)

    def test_errors(self):
        thirteen = (((0, 0), 13),)
        for counts, others, what in (
                ((), EXAMPLE, "empty"), (EXAMPLE, (), "empty"), ((), (), "empty"), (thirteen, (), "empty"),
                (thirteen, EXAMPLE, "many"), (EXAMPLE, thirteen, "many"), ((((1, 0), 7), ((1, 1), 6)), EXAMPLE, "many"),
                ((((1, 0), 1),), (((1, 0), 2),), "lamps"), ((((1, 0), 1),), (((0, 0), 1),), "lamps"),
                (EXAMPLE, (((0, 0), 2), ((1, 1), 1)), "lamps"), (EXAMPLE, (((0, 0), 1), ((1, 1), 2)), "lamps"),
                (EXAMPLE, (((0, 0), 2), ((0, 1), 2)), "shares"), (EXAMPLE, (((0, 0), 1),), "shares"),
                (EXAMPLE, (((0, 0), 1), ((0, 2), 2)), "shares")):
            self.assert_raises(BadTwins, (what,), share_twins, counts, others)

    def test_bad_counts(self):
        for function in (share_twins, set_twins):
            for wrong in NO_SEQUENCES:
                self.assert_raises(BadCounts, ("shape",), function, wrong, None)
                self.assert_raises(BadCounts, ("shape",), function, (), wrong)
            self.assert_raises(BadCounts, ("start",), function, [((0, 4), 1)], [((0, 0), 0)])
            self.assert_raises(BadCounts, ("count",), function, [((0, 0), 0)], [((0, 4), 1)])
            self.assert_raises(BadCounts, ("twice",), function, EXAMPLE, [((0, 0), 1), ((0, 0), 2)])
            self.assert_raises(BadCounts, ("count",), function, (), [((0, 0), True)])


class SetTwinsTest(HeardCase):
    def test_for_any_two_counts_with_the_same_starts_and_as_many_lamps(self):
        source = random.Random(1422)
        lamps = 0
        for _ in range(80):
            counts = some_counts(source, lit=True)
            lit, unlit = [[start for start, _ in counts if start[0] == bright] for bright in (1, 0)]
            others = dict(counts)
            for start in unlit:
                others[start] = source.randrange(1, max(2, (13 - lit_of(counts)) // len(unlit)))
            if len(lit) > 1 and others[lit[0]] > 1:
                others[lit[0]], others[lit[1]] = others[lit[0]] - 1, others[lit[1]] + 1
            others = tuple(sorted(others.items()))
            twins = set_twins(counts, others)
            for side, asked in ((twins.one, counts), (twins.other, others)):
                self.assert_same(side.starts, tuple(start for start, number in asked for _ in range(number)))
                self.assertEqual(side.net, complete_net(heads_of(asked), ONE, echo=ONE))
            self.assertIsNone(alike_until(twins, "which"))
            self.assertIsNone(plain_fault(twins, "which", 6))
            if counts != others:
                self.assertEqual(alike_until(twins, "sums"), 1)
            lamps += lit_of(counts) > 0
        self.assertGreater(lamps, 30)

    def test_errors(self):
        lit = (((0, 0), 2), ((1, 0), 1))
        for counts, others, what in (
                ((), lit, "empty"), (lit, (), "empty"), ((((0, 0), 13),), (), "empty"),
                (lit, (((0, 0), 12), ((1, 0), 1)), "many"), ((((1, 1), 13),), lit, "many"),
                (lit, (((0, 0), 2),), "lamps"), (lit, (((0, 0), 2), ((1, 0), 2)), "lamps"),
                (lit, (((0, 1), 2), ((1, 0), 2)), "lamps"),
                (lit, (((0, 0), 2), ((1, 1), 1)), "words"), (lit, (((1, 0), 1),), "words"),
                (lit, (((0, 0), 2), ((0, 1), 1), ((1, 0), 1)), "words")):
            self.assert_raises(BadTwins, (what,), set_twins, counts, others)

    def test_sizes(self):
        twins = set_twins((((0, 0), 12),), (((0, 0), 1),))
        self.assertIsNone(alike_until(twins, "which"))
        self.assertEqual(alike_until(twins, "sums"), 1)


class TwinLieTest(HeardCase):
    def plain(self, teller, twins, hearing, rounds):
        sides = (twins.one, twins.other)
        histories = [played(side.starts, [side.net] * rounds, hearing) for side in sides]
        for number in range(rounds + 1):
            for at, history in enumerate(histories):
                for house in range(history.houses):
                    saying = dict(teller.table).get(data_text(view_of(history, house, number).levels))
                    if saying is not None and not true_of(saying, counts_of_starts(sides[at].starts)):
                        return (number, at, house, saying)
        return None

    def some_teller(self, source, twins, hearing, rounds):
        table = {}
        for side in (twins.one, twins.other):
            history = played(side.starts, [side.net] * rounds, hearing)
            for house in range(history.houses):
                if source.randrange(3) == 0:
                    view = view_of(history, house, source.randrange(rounds + 1))
                    table[data_text(view.levels)] = some_saying(source, 2)
        return Teller(4, list(table.items()))

    def test_against_a_second_reading(self):
        source = random.Random(1423)
        told = {}
        for _ in range(150):
            twins = some_twins(source) if source.randrange(2) else multiplied(EXAMPLE, source.randrange(1, 5))
            hearing, rounds = source.choice(HEARINGS), source.randrange(4)
            teller = self.some_teller(source, twins, hearing, rounds)
            lie = twin_lie(teller, twins, hearing, rounds)
            self.assert_same(lie, self.plain(teller, twins, hearing, rounds))
            told[lie and lie[:2]] = told.get(lie and lie[:2], 0) + 1
        self.assertTrue(told[None] > 20 and told[0, 0] > 5 and told[0, 1] > 2, told)

    def test_what_holds_on_one_side_alone_is_a_lie(self):
        twins = multiplied(EXAMPLE, 2)
        saying = ("same", ((1, -1),), 3)
        for number in range(5):
            text = data_text(view_of(played(twins.one.starts, [twins.one.net] * number), 2).levels)
            teller = Teller(2, [(text, saying)])
            self.assert_same(twin_lie(teller, twins, "sums", 12), (number, 1, 2, saying))
            self.assertIsNone(twin_lie(teller, twins, "sums", number - 1))
            opposite = Teller(2, [(text, ("not", saying))])
            self.assert_same(twin_lie(opposite, twins, "sums", number), (number, 0, 1, ("not", saying)))

    def test_whoever_says_it_on_alike_sides_lies(self):
        source = random.Random(1424)
        for _ in range(40):
            twins = multiplied(some_counts(source, 4), source.randrange(2, 4))
            teller = self.some_teller(source, twins, "sums", 3)
            counts = [counts_of_starts(side.starts) for side in (twins.one, twins.other)]
            unlike = [saying for _, saying in teller.table if true_of(saying, counts[0]) != true_of(saying, counts[1])]
            if unlike:
                self.assertIsNotNone(twin_lie(teller, twins, "sums", 12))

    def test_nothing_said(self):
        self.assertIsNone(twin_lie(Teller(1, ()), multiplied(EXAMPLE, 4), "which", 12))


class ResultsTest(HeardCase):
    def test_equality(self):
        net = path_net(2, ONE)
        one = Side(((0, 0), (0, 1)), net)
        self.assertTrue(one == Side(((0, 0), (0, 1)), path_net(2, ONE)))
        other = Side(((0, 0), (0, 0)), net)
        for thing in (other, Side(one.starts, path_net(2, (2, 1))), (one.starts, net), None):
            self.assertFalse(one == thing)
        twins = Twins(one, other)
        self.assertIs(twins.one, one)
        self.assertTrue(twins == Twins(Side(one.starts, net), other))
        for thing in (Twins(other, one), Twins(one, one), Twins(other, other), (one, other), one, None):
            self.assertFalse(twins == thing)

    def test_nothing_is_changed(self):
        self.assert_unchanged(share_twins, [[[0, 1], 2], [[0, 0], 1]], [[[0, 0], 1], [[0, 1], 2]])
        self.assert_unchanged(set_twins, [[[0, 1], 2]], [[[0, 1], 3]])
        self.assert_unchanged(multiplied, [[[0, 1], 2], [[0, 0], 1]], 2)
        twins = Twins(Side([[0, 0], [0, 1]], path_net(2, ONE)), Side(((0, 0), (0, 1)), path_net(2, ONE)))
        alike_until(twins, "sums")
        twins_fault(twins, "which", 3)
        twin_lie(Teller(1, ()), twins, "sums", 3)
        self.assertEqual(twins.one.starts, [[0, 0], [0, 1]])
