"""[3.1] to [3.6] Nets."""

import itertools
import random
from fractions import Fraction

from headsheard.errors import BadNet, BadStrength, UnlikeNets
from headsheard.nets import (
    MOST_HOUSES, Net, add_nets, complete_net, path_net, renumber_net, ring_net, scale_net, star_net)
from helpers import NO_INTEGERS, NO_SEQUENCES, HeardCase, as_lists

ONE, HALF = (1, 1), (1, 2)
STRENGTHS = [(1, 1), (1, 2), (2, 3), (7, 5), (3, 1), (10 ** 29, 3)]
NO_HOUSES = NO_INTEGERS + (0, 13, -1, 10 ** 30)
NO_STRENGTHS = ((0, 1), (2, 2), (1, True), (1,), "ab", 5, [], (-1, 1), False, 0, "")


def some_net(source, houses=None):
    """A net with some links, in any order."""
    houses = houses or source.randrange(1, 13)
    pairs = [(i, j) for i in range(houses) for j in range(i, houses)]
    kept = source.sample(pairs, source.randrange(len(pairs) + 1))
    return Net(houses, [(i, j, source.choice(STRENGTHS)) for i, j in kept])


def table_of(net):
    """Who hears whom how strongly."""
    return {(i, j): Fraction(*strength) for i, j, strength in net.links}


def pairs_of(net):
    return [(i, j) for i, j, _ in net.links]


class NetTest(HeardCase):
    def test_links_in_any_order_and_as_lists(self):
        links = ((0, 1, (3, 1)), (0, 2, (1, 1)), (1, 2, (1, 2)), (2, 2, (1, 1)))
        for order in itertools.permutations(links):
            for given in (order, list(order), as_lists(order)):
                net = Net(3, given)
                self.assertEqual(net.houses, 3)
                self.assert_same(net.links, links)
                self.assert_same(net.told, (3, links))

    def test_example_of_the_document(self):
        net = Net(3, [(1, 2, (1, 2)), (0, 1, (3, 1)), (2, 2, (1, 1))])
        self.assert_same(net.heard_by(2), ((1, (1, 2)), (2, (1, 1))))
        self.assert_same(net.heard_by(1), ((0, (3, 1)), (2, (1, 2))))
        self.assert_same(net.heard_by(0), ((1, (3, 1)),))

    def test_most_houses(self):
        self.assertEqual(MOST_HOUSES, 12)
        for houses in range(1, 13):
            self.assert_same(Net(houses, []).told, (houses, ()))
            self.assert_same(Net(houses, ()).heard_by(houses - 1), ())

    def test_both_ends_hear_one_another_with_one_strength(self):
        source = random.Random(11)
        for _ in range(60):
            net = some_net(source)
            for i in range(net.houses):
                heard = dict(net.heard_by(i))
                self.assertEqual(list(heard), sorted(heard))
                for j in range(net.houses):
                    expected = {(one, other): strength for one, other, strength in net.links}.get(
                        (min(i, j), max(i, j)))
                    self.assertEqual(heard.get(j), expected)
                    self.assertEqual(net.strength_of(i, j), expected)
                    self.assertEqual(net.strength_of(j, i), expected)
                    self.assertEqual(dict(net.heard_by(j)).get(i), expected)
                self.assert_tuples(net.heard_by(i))

    def test_an_echo_is_heard_once(self):
        net = Net(2, [(0, 0, HALF), (0, 1, ONE)])
        self.assert_same(net.heard_by(0), ((0, HALF), (1, ONE)))
        self.assert_same(net.heard_by(1), ((0, ONE),))
        self.assert_same(net.strength_of(0, 0), HALF)
        self.assertIsNone(net.strength_of(1, 1))
        self.assert_same(Net(1, [[0, 0, [2, 3]]]).heard_by(0), ((0, (2, 3)),))

    def test_equality(self):
        net = Net(3, [(0, 1, ONE), (1, 2, HALF)])
        self.assertIs(net == Net(3, [[1, 2, [1, 2]], [0, 1, [1, 1]]]), True)
        for other in (Net(4, [(0, 1, ONE), (1, 2, HALF)]), Net(3, [(0, 1, ONE)]),
                      Net(3, [(0, 1, ONE), (1, 2, ONE)]), Net(3, [(0, 1, ONE), (0, 2, HALF)]), net.told, None, 3):
            self.assertIs(net == other, False)
            self.assertIs(net != other, True)

    def test_later_changes_have_no_effect(self):
        links = [[0, 1, [1, 2]], [1, 1, [3, 1]]]
        net = Net(2, links)
        links[0][2][0] = 5
        links[1][0] = 0
        links.append([0, 0, [1, 1]])
        self.assert_same(net.told, (2, ((0, 1, (1, 2)), (1, 1, (3, 1)))))
        self.assert_same(net.heard_by(1), ((0, (1, 2)), (1, (3, 1))))

    def test_nothing_passed_in_is_changed(self):
        for links in ([[1, 2, [1, 2]], [0, 1, [3, 1]]], [[1, 0, [1, 2]]], [[0, 1, [2, 2]]]):
            self.assert_unchanged(Net, 3, links)


class BadNetTest(HeardCase):
    def test_houses(self):
        for houses in NO_HOUSES:
            self.assert_raises(BadNet, ["houses", 0], Net, houses, [])
            self.assert_raises(BadNet, ["houses", 0], Net, houses, None)

    def test_links(self):
        for links in NO_SEQUENCES:
            self.assert_raises(BadNet, ["links", 0], Net, 2, links)

    def assert_fault(self, what, link):
        """The link has this fault wherever it stands."""
        right = [(0, 0, ONE), [1, 1, [1, 1]], (1, 2, ONE)]
        for at in range(4):
            for kind in (list, tuple):
                self.assert_raises(BadNet, [what, at], Net, 3, kind(right[:at] + [link] + right[at:]))

    def test_form(self):
        for link in NO_SEQUENCES + ((), (0, 1), [0, 1], (0, 1, ONE, 1), "abc", (0, 1, 1, 1)):
            self.assert_fault("form", link)

    def test_house(self):
        for house in NO_INTEGERS + (-1, 3, 10 ** 30):
            self.assert_fault("house", (house, 2, ONE))
            self.assert_fault("house", [0, house, ONE])

    def test_order(self):
        for link in ((1, 0, ONE), (2, 1, ONE), [2, 0, [1, 1]]):
            self.assert_fault("order", link)

    def test_strength(self):
        for strength in NO_STRENGTHS + (None,):
            self.assert_fault("strength", (0, 1, strength))

    def test_twice(self):
        for link in ((0, 1, ONE), [0, 1, [1, 2]]):
            self.assert_raises(BadNet, ["twice", 2], Net, 3, [(0, 1, ONE), (0, 2, ONE), link, (1, 2, ONE)])
        self.assert_raises(BadNet, ["twice", 1], Net, 3, [(1, 1, ONE), (1, 1, HALF)])

    def test_the_first_fault_is_told(self):
        self.assert_raises(BadNet, ["house", 0], Net, 3, [(5, 1, None), None])
        self.assert_raises(BadNet, ["order", 0], Net, 3, [(2, 1, None), (0, 1)])
        self.assert_raises(BadNet, ["form", 1], Net, 3, [(0, 1, ONE), (2, 1), (0, 1, ONE)])
        self.assert_raises(BadNet, ["strength", 1], Net, 3, [(0, 1, ONE), (0, 1, (2, 2))])
        self.assert_raises(BadNet, ["twice", 1], Net, 3, [(0, 1, ONE), (0, 1, ONE), (2, 1, ONE)])
        self.assert_raises(BadNet, ["house", 0], Net, 1, [(1, 0, ONE)])


class MadeNetsTest(HeardCase):
    def test_add_nets(self):
        source = random.Random(12)
        for _ in range(80):
            one = some_net(source)
            other = some_net(source, one.houses)
            both = add_nets(one, other)
            first, second = table_of(one), table_of(other)
            expected = {pair: first.get(pair, 0) + second.get(pair, 0) for pair in set(first) | set(second)}
            self.assertEqual(table_of(both), expected)
            self.assertEqual(both.houses, one.houses)
            self.assertEqual(both, Net(both.houses, both.links))
            self.assertEqual(both, add_nets(other, one))
        self.assertEqual(add_nets(Net(2, [(0, 1, HALF)]), Net(2, [(0, 1, HALF), (1, 1, ONE)])).links,
                         ((0, 1, (1, 1)), (1, 1, (1, 1))))

    def test_add_nets_of_unlike_numbers(self):
        for one, other in itertools.permutations(range(1, 13), 2):
            self.assert_raises(UnlikeNets, [], add_nets, Net(one, []), Net(other, []))

    def test_scale_net(self):
        source = random.Random(13)
        for _ in range(40):
            net = some_net(source)
            for strength in ((1, 1), (2, 3), [5, 1], (10 ** 29, 7)):
                scaled = scale_net(net, strength)
                self.assertEqual(table_of(scaled), {pair: worth * Fraction(*strength)
                                                    for pair, worth in table_of(net).items()})
                self.assertEqual(scaled, Net(net.houses, scaled.links))
                self.assertEqual(scaled.houses, net.houses)

    def test_scale_net_refuses_as_check_strength(self):
        for net in (Net(2, []), Net(2, [(0, 1, ONE)])):
            for strength, what in ((5, "shape"), (None, "shape"), ((1, 2, 3), "shape"), ((1, True), "whole"),
                                   ((0, 1), "sign"), ([2, 4], "lowest"), ("ab", "shape")):
                self.assert_raises(BadStrength, [what], scale_net, net, strength)

    def test_renumber_net(self):
        source = random.Random(14)
        for _ in range(80):
            net = some_net(source)
            places = list(range(net.houses))
            source.shuffle(places)
            for given in (places, tuple(places)):
                moved = renumber_net(net, given)
                self.assertEqual(moved.houses, net.houses)
                self.assertEqual(len(moved.links), len(net.links))
                for i, j in itertools.product(range(net.houses), repeat=2):
                    self.assertEqual(moved.strength_of(places[i], places[j]), net.strength_of(i, j))
        moved = renumber_net(Net(3, [(0, 1, HALF), (0, 0, ONE)]), [2, 0, 1])
        self.assert_same(moved.links, ((0, 2, HALF), (2, 2, ONE)))

    def test_renumber_net_refuses_wrong_places(self):
        net = Net(3, [(0, 1, ONE)])
        for places in NO_SEQUENCES + ((), (0, 1), (0, 1, 2, 3), (0, 1, 1), (0, 0, 0), (1, 2, 3), (-1, 0, 1), [0, True, 2],
                                      (False, 1, 2), (0, 1, 2.0), (0, 1, "2"), (0, 1, None), {0: 0, 1: 1, 2: 2}, "012",
                                      [[0], 1, 2], (0, 1, 2, 2)):
            self.assert_raises(BadNet, ["places", 0], renumber_net, net, places)
        self.assert_raises(BadNet, ["places", 0], renumber_net, Net(1, []), [False])

    def test_nothing_passed_in_is_changed(self):
        net = Net(3, [(0, 1, ONE), (2, 2, HALF)])
        told = net.told
        for function, given in ((scale_net, [3, 2]), (renumber_net, [2, 0, 1]), (renumber_net, [2, 0, 0])):
            before = list(given)
            try:
                function(net, given)
            except BadNet:
                pass
            self.assertEqual(given, before)
        add_nets(net, net)
        self.assertEqual(net.told, told)
        self.assertEqual(net.heard_by(0), ((1, ONE),))


class NetsOfOneStrengthTest(HeardCase):
    def assert_net(self, net, houses, pairs, strength, echo):
        links = [(i, j, strength) for i, j in pairs]
        if echo is not None:
            links += [(house, house, echo) for house in range(houses)]
        self.assertEqual(net, Net(houses, links))

    def test_complete_path_ring_and_star(self):
        for houses in range(1, 13):
            for strength, echo in ((ONE, None), (HALF, (3, 1)), ((2, 5), (2, 5))):
                named = {} if echo is None else {"echo": echo}
                row = [(house, house + 1) for house in range(houses - 1)]
                self.assert_net(complete_net(houses, strength, **named), houses,
                                itertools.combinations(range(houses), 2), strength, echo)
                self.assert_net(path_net(houses, list(strength), **named), houses, row, strength, echo)
                ring = row + ([(0, houses - 1)] if houses > 2 else [])
                self.assert_net(ring_net(houses, strength, **named), houses, ring, strength, echo)
                for centre in range(houses):
                    rays = [tuple(sorted((centre, house))) for house in range(houses) if house != centre]
                    self.assert_net(star_net(houses, centre, strength, **named), houses, rays, strength, echo)

    def test_small_rings(self):
        self.assertEqual(pairs_of(ring_net(1, ONE)), [])
        self.assertEqual(pairs_of(ring_net(2, ONE)), [(0, 1)])
        self.assertEqual(pairs_of(ring_net(3, ONE)), [(0, 1), (0, 2), (1, 2)])

    def test_echo_may_be_a_list(self):
        self.assert_same(path_net(2, [1, 2], echo=[3, 1]).links, ((0, 0, (3, 1)), (0, 1, (1, 2)), (1, 1, (3, 1))))

    def test_echo_is_passed_by_its_name_alone(self):
        for function in (complete_net, path_net, ring_net):
            with self.assertRaises(TypeError):
                function(2, ONE, ONE)
        with self.assertRaises(TypeError):
            star_net(2, 0, ONE, ONE)

    def test_errors_in_their_order(self):
        for houses in NO_HOUSES:
            for function in (complete_net, path_net, ring_net):
                self.assert_raises(BadNet, ["houses", 0], function, houses, 5, echo=5)
            self.assert_raises(BadNet, ["houses", 0], star_net, houses, None, 5, echo=5)
        for centre in NO_INTEGERS + (-1, 3, 10 ** 30):
            self.assert_raises(BadNet, ["centre", 0], star_net, 3, centre, 5, echo=5)
        self.assert_raises(BadNet, ["centre", 0], star_net, 1, 1, ONE)

    def test_strengths_are_asked_also_where_there_is_no_link(self):
        makers = [complete_net, path_net, ring_net, lambda houses, *more, **named: star_net(houses, 0, *more, **named)]
        for maker in makers:
            for houses in (1, 2, 3):
                self.assert_raises(BadStrength, ["sign"], maker, houses, (0, 1), echo=(2, 2))
                self.assert_raises(BadStrength, ["shape"], maker, houses, None, echo=ONE)
                self.assert_raises(BadStrength, ["lowest"], maker, houses, ONE, echo=(2, 2))
                for echo in (False, 0, (), ""):
                    self.assert_raises(BadStrength, ["shape"], maker, houses, ONE, echo=echo)
