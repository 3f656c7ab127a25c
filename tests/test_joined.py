"""[3.7] to [3.10] How nets are joined."""

import itertools
import random

from headsheard.joined import (
    Cut, Joining, cut_fault, find_joining, is_joined, joining_fault, pieces_of, sources_of)
from headsheard.nets import Net, complete_net, path_net, ring_net, star_net
from helpers import HeardCase

ONE = (1, 1)


def all_nets(houses, echoes=False):
    """Every net of so many houses with links of strength 1."""
    pairs = [(i, j) for i in range(houses) for j in range(i if echoes else i + 1, houses)]
    for kept in itertools.product((True, False), repeat=len(pairs)):
        yield Net(houses, [(i, j, ONE) for (i, j), keep in zip(pairs, kept) if keep])


def sparse_net(source, houses):
    pairs = [(i, j) for i in range(houses) for j in range(i, houses)]
    kept = source.sample(pairs, source.randrange(min(len(pairs), 2 * houses) + 1))
    return Net(houses, [(i, j, (source.randrange(1, 9), 1)) for i, j in kept])


def led_to(net, house):
    """The houses that are led to the house, by adding neighbours until nothing changes."""
    lot = {house}
    while True:
        more = lot | {k for i, j, _ in net.links if {i, j} & lot for k in (i, j)}
        if more == lot:
            return tuple(sorted(lot))
        lot = more


def some_nets():
    source = random.Random(15)
    for houses in range(1, 4):
        yield from all_nets(houses, echoes=True)
    yield from all_nets(4)
    for _ in range(150):
        yield sparse_net(source, source.randrange(1, 13))


class PiecesTest(HeardCase):
    def test_pieces(self):
        for net in some_nets():
            expected = tuple(sorted({led_to(net, house) for house in range(net.houses)}))
            self.assert_same(pieces_of(net), expected)
            self.assertIs(is_joined(net), len(expected) == 1)

    def test_echoes_join_nothing(self):
        echoes = Net(3, [(house, house, ONE) for house in range(3)])
        self.assert_same(pieces_of(echoes), ((0,), (1,), (2,)))
        self.assertIs(is_joined(echoes), False)

    def test_one_house_is_joined(self):
        for links in ([], [(0, 0, ONE)]):
            self.assertIs(is_joined(Net(1, links)), True)
            self.assert_same(pieces_of(Net(1, links)), ((0,),))
            self.assertEqual(find_joining(Net(1, links)), Joining(()))

    def test_no_links(self):
        for houses in range(2, 13):
            net = Net(houses, [])
            self.assertIs(is_joined(net), False)
            self.assert_same(pieces_of(net), tuple((house,) for house in range(houses)))
            self.assertEqual(find_joining(net), Cut((0,)))

    def test_long_chains(self):
        for houses in range(1, 13):
            for net in (path_net(houses, ONE), ring_net(houses, ONE), complete_net(houses, ONE),
                        star_net(houses, houses - 1, ONE)):
                self.assertIs(is_joined(net), True)
                self.assert_same(pieces_of(net), (tuple(range(houses)),))

    def test_pieces_ascend(self):
        net = Net(6, [(0, 5, ONE), (1, 4, ONE), (2, 4, ONE)])
        self.assert_same(pieces_of(net), ((0, 5), (1, 2, 4), (3,)))
        self.assertEqual(find_joining(net), Cut((0, 5)))


class FindJoiningTest(HeardCase):
    def test_example_of_the_document(self):
        net = Net(3, [(1, 2, (1, 2)), (0, 1, (3, 1)), (2, 2, (1, 1))])
        self.assert_same(find_joining(net).steps, ((0, 1), (1, 2)))
        self.assertIsInstance(find_joining(net), Joining)

    def test_each_step_is_the_least_couple(self):
        for net in some_nets():
            found = find_joining(net)
            if not is_joined(net):
                self.assertIsInstance(found, Cut)
                self.assert_same(found.houses, led_to(net, 0))
                self.assertIsNone(cut_fault(net, found.houses))
                continue
            self.assertIsInstance(found, Joining)
            met, steps = [0], []
            while len(met) < net.houses:
                steps.append(min((one, other) for one in met for other in range(net.houses)
                                 if other not in met and net.strength_of(one, other)))
                met.append(steps[-1][1])
            self.assert_same(found.steps, tuple(steps))
            self.assertIsNone(joining_fault(net, found.steps))

    def test_least_steps_look_at_the_met_house_first(self):
        net = Net(4, [(0, 3, ONE), (1, 2, ONE), (2, 3, ONE), (1, 3, ONE)])
        self.assert_same(find_joining(net).steps, ((0, 3), (3, 1), (1, 2)))

    def test_never_both(self):
        for net in itertools.chain(all_nets(1), all_nets(2), all_nets(3), all_nets(4)):
            lots = [lot for many in range(net.houses + 1) for lot in itertools.combinations(range(net.houses), many)]
            cut = any(cut_fault(net, lot) is None for lot in lots)
            self.assertIs(cut, not is_joined(net))
            self.assertIs(cut, isinstance(find_joining(net), Cut))


class FaultsTest(HeardCase):
    def test_joining_fault(self):
        net = Net(4, [(0, 1, ONE), (1, 2, ONE), (2, 3, ONE), (0, 3, ONE), (1, 1, ONE)])
        cases = (
            ([(0, 1), (1, 2), (2, 3)], None), (((0, 3), (3, 2), (2, 1)), None), ([[0, 1], [0, 3], [1, 2]], None),
            ([], 0), ([(0, 1)], 1), ([(0, 1), (1, 2)], 2), ([(1, 2)], 0), ([(0, 2)], 0), ([(0, 0)], 0),
            ([(0, 1), (1, 1)], 1), ([(0, 1), (1, 0)], 1), ([(0, 1), (2, 3), (1, 2)], 1), ([(0, 4)], 0), ([(0, -1)], 0),
            ([(-1, 0)], 0), ([(4, 0)], 0), ([(0, 1), (1, 2), (2, 3), (3, 0)], 3), ([(0, 1), (1, 2), (2, 3), (0, 3)], 3),
            ([(0, 10 ** 30)], 0), ([(0, 1), (0, 2), (0, 3)], 1), ([(0, 1), (1, 3)], 1),
        )
        for steps, fault in cases:
            self.assertEqual(joining_fault(net, steps), fault, steps)
            self.assertEqual(joining_fault(net, tuple(steps)), fault, steps)

    def test_joining_fault_of_one_house(self):
        net = Net(1, [(0, 0, ONE)])
        self.assertIsNone(joining_fault(net, []))
        self.assertEqual(joining_fault(net, [(0, 0)]), 0)
        self.assertEqual(joining_fault(net, [(0, 1)]), 0)

    def test_joining_fault_against_its_words(self):
        source = random.Random(16)
        for _ in range(400):
            houses = source.randrange(1, 5)
            net = source.choice(list(all_nets(houses)))
            steps = [(source.randrange(-1, houses + 1), source.randrange(-1, houses + 1))
                     for _ in range(source.randrange(4))]
            if source.randrange(2) and is_joined(net):
                steps = list(find_joining(net).steps)
                source.shuffle(steps)
            met, expected = {0}, None
            for at, (one, other) in enumerate(steps):
                if one not in met or other not in range(houses) or other in met \
                        or (min(one, other), max(one, other)) not in [link[:2] for link in net.links]:
                    expected = at
                    break
                met.add(other)
            if expected is None and len(met) < houses:
                expected = len(steps)
            self.assertEqual(joining_fault(net, steps), expected)

    def test_cut_fault(self):
        net = Net(5, [(0, 1, ONE), (2, 3, ONE), (4, 4, ONE)])
        for lot in ([0, 1], (1, 0), [2, 3], [4], [3, 2, 1, 0], [0, 4, 1], [2, 4, 3]):
            self.assertIsNone(cut_fault(net, lot))
            self.assertIsNone(cut_fault(net, tuple(lot)))
        for lot in ([], ()):
            self.assertEqual(cut_fault(net, lot), "empty")
        for lot in ([5], [-1], [0, 0], [0, 1, 0], [0, 1, 2, 3, 4, 4], [0, 1, 2, 3, 4, 5], [10 ** 30], [0, 1, 2, 3, 5],
                    [0, -1], [0, 2, 2]):
            self.assertEqual(cut_fault(net, lot), "houses")
        for lot in ([0, 1, 2, 3, 4], (4, 2, 0, 1, 3)):
            self.assertEqual(cut_fault(net, lot), "whole")
        for lot in ([0], [1], [2], [0, 1, 2], [4, 3], [1, 2, 3, 4]):
            self.assertEqual(cut_fault(net, lot), "link")
        self.assertEqual(cut_fault(Net(1, []), [0]), "whole")

    def test_nothing_passed_in_is_changed(self):
        net = path_net(3, ONE)
        steps, lot, nets = [[0, 1], [1, 2]], [2, 0], [net, net]
        joining_fault(net, steps)
        cut_fault(net, lot)
        sources_of(nets, 0)
        self.assertEqual([steps, lot], [[[0, 1], [1, 2]], [2, 0]])
        self.assertEqual(nets, [net, net])


class SourcesTest(HeardCase):
    def test_example_of_the_document(self):
        net = Net(3, [(1, 2, (1, 2)), (0, 1, (3, 1)), (2, 2, (1, 1))])
        self.assert_same(sources_of([net, net], 0), ((0, 1, 2), (0, 1), (0,)))

    def test_no_rounds(self):
        for nets in ([], ()):
            self.assert_same(sources_of(nets, 3), ((3,),))

    def test_the_rounds_are_taken_from_the_last_one_back(self):
        first, second = Net(4, [(1, 2, ONE)]), Net(4, [(0, 1, ONE), (3, 3, ONE)])
        self.assert_same(sources_of([first, second], 0), ((0, 1, 2), (0, 1), (0,)))
        self.assert_same(sources_of([second, first], 0), ((0, 1), (0,), (0,)))
        self.assert_same(sources_of((second, first), 2), ((0, 1, 2), (1, 2), (2,)))
        self.assert_same(sources_of([first, second], 3), ((3,), (3,), (3,)))

    def test_each_entry_against_its_words(self):
        source = random.Random(17)
        for _ in range(100):
            houses = source.randrange(1, 13)
            nets = [sparse_net(source, houses) for _ in range(source.randrange(6))]
            house = source.randrange(houses)
            lots = sources_of(nets, house)
            self.assertEqual(len(lots), len(nets) + 1)
            self.assert_same(lots[-1], (house,))
            for level, net in enumerate(nets):
                heard = {other for one in lots[level + 1] for other, _ in net.heard_by(one)}
                self.assert_same(lots[level], tuple(sorted(heard | set(lots[level + 1]))))

    def test_joined_nets_bring_all_from_level_to_level(self):
        source = random.Random(18)
        for _ in range(60):
            houses = source.randrange(1, 13)
            places = list(range(houses))
            nets = []
            for _ in range(source.randrange(houses + 3)):
                source.shuffle(places)
                nets.append(Net(houses, [(min(i, j), max(i, j), ONE) for i, j in zip(places, places[1:])]))
            for house in range(houses):
                for level, lot in enumerate(sources_of(nets, house)):
                    self.assertGreaterEqual(len(lot), min(houses, len(nets) - level + 1))


class ResultsTest(HeardCase):
    def test_results_keep_what_they_are_given(self):
        steps, houses = [(9, "a")], {1: 2}
        self.assertIs(Joining(steps).steps, steps)
        self.assertIs(Cut(houses).houses, houses)

    def test_equality(self):
        self.assertIs(Joining(((0, 1),)) == Joining(((0, 1),)), True)
        self.assertIs(Joining(((0, 1),)) == Joining(((0, 2),)), False)
        self.assertIs(Cut((0,)) == Cut((0,)), True)
        self.assertIs(Cut((0,)) == Cut((1,)), False)
        self.assertIs(Joining(()) == Cut(()), False)
        self.assertIs(Cut(()) == Joining(()), False)
        self.assertIs(Cut((0,)) == (0,), False)
        self.assertIs(Joining(()) != Joining(()), False)
