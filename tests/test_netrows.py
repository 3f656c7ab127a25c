"""[4.1] to [4.10] Net rows."""

import itertools
import random
import sys
from math import lcm

from headsheard.errors import BadRow, NoNet, TooLong
from headsheard.joined import is_joined
from headsheard.netrows import NetRow, first_apart, first_unlike, list_row, stretch_net
from headsheard.nets import Net, add_nets, path_net, renumber_net, scale_net
from helpers import NO_INTEGERS, NO_SEQUENCES, HeardCase, Other, as_lists
from plans import ENDLESS, ONE, cycle_of, some_nets, some_plan, table_of, unroll

A, B = ("net", "A"), ("net", "B")
LOOSE = Net(3, [(0, 1, ONE)])
NETS = (("A", path_net(3, ONE)), ("B", Net(3, [(0, 2, (1, 2)), (1, 1, (3, 1))])))


def row_of(plan, nets=NETS):
    return NetRow(nets, plan)


def chain(depth, inner=A):
    """A plan that is so deep."""
    for _ in range(depth - 1):
        inner = ("turn", 1, inner)
    return inner


def some_rows(seed, many, endless=None):
    """Couples of a net row and the nets and plan it was made of."""
    source = random.Random(seed)
    for at in range(many):
        houses = source.randrange(1, 6)
        nets = some_nets(source, houses, source.randrange(1, 5))
        kind = at % 2 == 0 if endless is None else endless
        plan = some_plan(source, houses, [name for name, _ in nets], source.randrange(2, 6), kind)
        yield NetRow(nets, plan), nets, plan


def rounds_of(row, limit):
    return [table_of(row.net_at(number)) for number in range(1, limit + 1)]


class NetRowTest(HeardCase):
    def test_attributes(self):
        row = NetRow([["B", NETS[1][1]], ("A", NETS[0][1])], ["then", ["net", "A"], ["scale", [1, 2], ["net", "B"]]])
        self.assertEqual(row.houses, 3)
        self.assertEqual(row.nets, NETS)
        self.assertIsInstance(row.nets, tuple)
        self.assertTrue(all(isinstance(entry, tuple) for entry in row.nets))
        self.assert_same(row.plan, ("then", A, ("scale", (1, 2), B)))

    def test_names_ascend_as_strings(self):
        net = NETS[0][1]
        names = ["B", "AAAA", "Z", "AZ", "A", "ZZZZ"]
        row = NetRow([(name, net) for name in names], A)
        self.assertEqual([name for name, _ in row.nets], sorted(names))

    def test_example_of_the_document(self):
        nets = (("A", Net(3, [(0, 1, (1, 2)), (1, 2, (3, 1))])), ("B", Net(3, [(0, 2, ONE)])))
        row = NetRow(nets, ("then", A, ("ever", 1, B)))
        self.assertEqual(row.cycle(), (1, 3))
        self.assertEqual(row.net_at(2), nets[1][1])
        self.assertEqual(row.net_at(3), Net(3, [(0, 1, ONE)]))
        self.assertEqual(row.net_at(10 ** 9), Net(3, [(1, 2, ONE)]))

    def test_each_round_of_each_plan(self):
        for row, nets, plan in some_rows(20, 300):
            tables = unroll(plan, nets, 80)
            self.assertEqual(rounds_of(row, len(tables)), tables)
            if len(tables) < 80:
                self.assertEqual(row.length, len(tables))
                self.assert_raises(NoNet, [len(tables) + 1], row.net_at, len(tables) + 1)
            self.assertEqual(list(row.nets_to(len(tables))), [row.net_at(at + 1) for at in range(len(tables))])
            self.assertEqual(NetRow(as_lists_but_nets(nets), as_lists(plan)), row)

    def test_each_word_alone(self):
        net, other = NETS[0][1], NETS[1][1]
        self.assertEqual(row_of(A).nets_to(1), (net,))
        self.assertEqual(row_of(("then", A)).nets_to(1), (net,))
        self.assertEqual(row_of(("then", B, A, B)).nets_to(3), (other, net, other))
        self.assertEqual(row_of(("repeat", 3, 0, A)).nets_to(3), (net,) * 3)
        self.assertEqual(row_of(("repeat", 2, 1, ("then", A, B))).nets_to(4),
                         (net, other, renumber_net(net, (1, 2, 0)), renumber_net(other, (1, 2, 0))))
        self.assertEqual(row_of(("repeat", 3, 2, B)).net_at(3), renumber_net(other, (1, 2, 0)))
        self.assertEqual(row_of(("turn", 2, B)).net_at(1), renumber_net(other, (2, 0, 1)))
        self.assertEqual(row_of(("swap", 0, 1, A)).net_at(1), Net(3, [(0, 1, ONE), (0, 2, ONE)]))
        self.assertEqual(row_of(("swap", 2, 0, B)).net_at(1), other)
        self.assertEqual(row_of(("scale", (2, 3), B)).net_at(1), scale_net(other, (2, 3)))

    def test_what_is_further_inside_is_done_first(self):
        net = Net(4, [(0, 1, ONE), (0, 0, (1, 2))])
        nets = [("A", net)]
        turned_last = NetRow(nets, ("turn", 1, ("swap", 0, 2, A)))
        swapped_last = NetRow(nets, ("swap", 0, 2, ("turn", 1, A)))
        self.assertEqual(turned_last.net_at(1), Net(4, [(2, 3, ONE), (3, 3, (1, 2))]))
        self.assertEqual(swapped_last.net_at(1), Net(4, [(0, 1, ONE), (1, 1, (1, 2))]))
        self.assertEqual(NetRow(nets, ("scale", (2, 3), ("scale", (3, 4), A))).net_at(1), scale_net(net, (1, 2)))
        copied = NetRow(nets, ("ever", 1, ("swap", 0, 2, A)))
        self.assertEqual(copied.net_at(2), Net(4, [(2, 3, ONE), (3, 3, (1, 2))]))

    def test_equality(self):
        row = row_of(("then", A, B))
        self.assertIs(row == NetRow(list(NETS)[::-1], ["then", ["net", "A"], ["net", "B"]]), True)
        renamed = (("A", NETS[0][1]), ("C", NETS[1][1]))
        for other in (row_of(("then", B, A)), row_of(A), NetRow(NETS + (("C", NETS[0][1]),), row.plan),
                      NetRow((("A", LOOSE), NETS[1]), row.plan), row_of(("then", ("then", A, B))),
                      NetRow(renamed, ("then", A, ("net", "C"))), row.plan, None):
            self.assertIs(row == other, False)
            self.assertIs(row != other, True)

    def test_later_changes_have_no_effect(self):
        nets, plan = [["A", NETS[0][1]], ["B", NETS[1][1]]], ["then", ["net", "A"], ["scale", [1, 2], ["net", "B"]]]
        row = NetRow(nets, plan)
        plan[2][1][0] = 7
        plan[1][1] = "B"
        nets[0][0] = "Q"
        nets.pop()
        self.assertEqual(row, row_of(("then", A, ("scale", (1, 2), B))))
        self.assertEqual(row.net_at(2), scale_net(NETS[1][1], (1, 2)))

    def test_nothing_passed_in_is_changed(self):
        nets, plan = [["B", NETS[1][1]], ["A", NETS[0][1]]], ["ever", 1, ["then", ["net", "A"], ["net", "B"]]]
        NetRow(nets, plan)
        self.assertEqual(nets, [["B", NETS[1][1]], ["A", NETS[0][1]]])
        self.assertEqual(plan, ["ever", 1, ["then", ["net", "A"], ["net", "B"]]])


def as_lists_but_nets(nets):
    return [[name, net] for name, net in reversed(nets)]


class BadNetsTest(HeardCase):
    def assert_bad(self, what, trail, nets, plan=A):
        self.assert_raises(BadRow, [what, trail], NetRow, nets, plan)

    def test_nets(self):
        for nets in NO_SEQUENCES + ((), []):
            self.assert_bad("nets", (), nets, None)
        many = [("".join(letters), NETS[0][1]) for letters in itertools.product("ABCDEFGH", repeat=2)]
        self.assertEqual(len(NetRow(many[:60], ("net", "AA")).nets), 60)
        self.assertEqual(len(NetRow(many[:1], ("net", "AA")).nets), 1)
        self.assert_bad("nets", (), many[:61])
        self.assert_bad("nets", (), [None] * 61)

    def test_entry(self):
        for entry in NO_SEQUENCES + ((), ("C",), ("C", NETS[0][1], 1)):
            self.assert_bad("entry", (2,), list(NETS) + [entry, None])
            self.assert_bad("entry", (0,), (entry,) + NETS)

    def test_name(self):
        for name in NO_INTEGERS + ("", "a", "AAAAA", "Aa", "A1", "A ", " A", "A\n", "\u00c4", "@", "[", 5, ["A"], ()):
            self.assert_bad("name", (1,), (NETS[0], (name, NETS[1][1])))
        for name in ("A", "Z", "AZ", "ABC", "ABCD", "ZZZZ"):
            self.assertEqual(NetRow([(name, LOOSE)], ("net", name)).net_at(1), LOOSE)

    def test_twice(self):
        self.assert_bad("twice", (2,), NETS + (["A", NETS[1][1]],))
        self.assert_bad("twice", (1,), (NETS[0], NETS[0], NETS[1]))

    def test_houses(self):
        for houses in (1, 2, 4, 12):
            self.assert_bad("houses", (2,), NETS + (("C", Net(houses, [])),))
        self.assert_bad("houses", (1,), (("C", Net(4, [])),) + NETS)

    def test_the_first_fault_is_told(self):
        self.assert_bad("twice", (1,), (NETS[0], ("A", Net(4, [])), None))
        self.assert_bad("houses", (1,), (NETS[0], ("B", Net(4, [])), ("A", LOOSE)))
        self.assert_bad("name", (1,), (NETS[0], ("a", Net(4, [])), ("A", LOOSE)))
        self.assert_bad("entry", (1,), (NETS[0], ("a",), ("a", LOOSE)), None)
        self.assert_bad("houses", (1,), (NETS[0], ("C", Net(4, []))), None)


class BadPlanTest(HeardCase):
    def assert_bad(self, what, trail, plan, nets=NETS):
        self.assert_raises(BadRow, [what, trail], NetRow, nets, plan)
        self.assert_raises(BadRow, [what, trail], NetRow, list(nets), as_lists(plan))

    def assert_bad_anywhere(self, what, node, trail=()):
        """The node has this fault as the plan itself and as a part."""
        self.assert_bad(what, trail, node)
        self.assert_bad(what, (3,) + trail, ("then", A, B, node))
        self.assert_bad(what, (2, 3, 1) + trail, ("turn", 0, ("swap", 0, 1, ("then", node, A))))
        self.assert_bad(what, (3, 2) + trail, ("repeat", 2, 1, ("scale", ONE, node)))

    def test_form(self):
        for node in NO_SEQUENCES + ((), ("net",), ("net", "A", "B"), ("then",), ("repeat", 2, A), ("repeat", 2, 0, A, A),
                                    ("ever", A), ("ever", 0, A, A), ("turn", A), ("turn", 1, 2, A), ("swap", 0, A),
                                    ("swap", 0, 1, 2, A), ("scale", A), ("scale", 1, 1, A), ("A", "A"), ("Net", "A"),
                                    (None, "A"), (("net",), "A"), (["net"], "A"), ({}, A), (Other(), 0, A), "net", (A,),
                                    (A, B), ("nets", "A"), ("", A), (0, A), (True, 0, A), (b"net", "A")):
            self.assert_bad_anywhere("form", node)

    def test_name(self):
        for name in NO_INTEGERS + NO_SEQUENCES + ("", "C", "a", "AB", ["A"], ("A",), {}):
            self.assert_bad_anywhere("name", ("net", name))

    def test_number(self):
        parts = {
            "many": [("repeat", worth, 0, A) for worth in NO_INTEGERS + (0, -1, 10 ** 9 + 1)],
            "by": [node for worth in NO_INTEGERS + (-1, 3, 10 ** 30)
                   for node in (("repeat", 1, worth, A), ("turn", worth, A))],
            "i": [node for worth in NO_INTEGERS + (-1, 3, 10 ** 30)
                  for node in (("swap", worth, 1, A), ("swap", 1, worth, A))] + [("swap", 1, 1, A), ("swap", 0, 0, A)],
            "strength": [("scale", worth, A) for worth in NO_SEQUENCES + ((0, 1), (2, 2), (1,), (True, 1), (1, -1))],
        }
        for what, nodes in parts.items():
            for node in nodes:
                with self.subTest(what):
                    self.assert_bad_anywhere("number", node)
        for worth in NO_INTEGERS + (-1, 3):
            self.assert_bad("number", (2,), ("then", A, ("ever", worth, A)))
        one_house = [("A", Net(1, []))]
        self.assert_bad("number", (), ("swap", 0, 0, A), one_house)
        self.assert_bad("number", (), ("swap", 0, 1, A), one_house)
        self.assert_bad("number", (), ("turn", 1, A), one_house)

    def test_ends_of_each_range(self):
        self.assertEqual(row_of(("repeat", 10 ** 9, 2, A)).length, 10 ** 9)
        for by in range(3):
            self.assertEqual(row_of(("turn", by, A)).length, 1)
        self.assertEqual(row_of(("repeat", 1, 0, A)).length, 1)
        for i, j in itertools.permutations(range(3), 2):
            self.assertEqual(row_of(("swap", i, j, A)).length, 1)

    def test_nodes(self):
        for many in (117, 118, 119):
            self.assertEqual(row_of(("then",) + (A,) * many).length, many)
        self.assert_bad("size", (120,), ("then",) + (A,) * 120)
        self.assert_bad("size", (120,), ("then",) + (A,) * 119 + (B,) + (None,))
        self.assertEqual(row_of(("then", ("then",) + (A,) * 59, ("then",) + (A,) * 58)).length, 117)
        self.assert_bad("size", (2, 59), ("then", ("then",) + (A,) * 59, ("then",) + (A,) * 60))
        self.assert_bad("size", (61,), ("then",) + (("turn", 1, A),) * 59 + (A, A))
        self.assertEqual(row_of(("then",) + (("turn", 1, A),) * 59 + (A,)).length, 60)

    def test_depth(self):
        for depth in range(1, 13):
            self.assertEqual(row_of(chain(depth)).length, 1)
        for depth in (13, 14, 40):
            self.assert_bad("size", (2,) * 12, chain(depth))
        self.assert_bad("size", (1,) * 12, nested_thens(13))
        self.assertEqual(row_of(nested_thens(12)).length, 1)
        within = ["turn", 0, None]
        within[2] = within
        self.assert_raises(BadRow, ["size", (2,) * 12], NetRow, NETS, within)

    def test_the_fault_of_a_node_in_its_order(self):
        self.assert_bad("form", (2,) * 12, chain(13, ("net", "A", "B")))
        self.assert_bad("size", (2,) * 12, chain(13, ("net", "Q")))
        self.assert_bad("size", (2,) * 12, chain(13, ("turn", 9, A)))
        self.assert_bad("form", (120,), ("then",) + (A,) * 119 + (None,))
        self.assert_bad("size", (120,), ("then",) + (A,) * 119 + (("net", "Q"),))
        self.assert_bad("size", (120,), ("then",) + (A,) * 119 + (("turn", 9, None),))

    def test_each_node_comes_ahead_of_its_parts_and_parts_from_left_to_right(self):
        self.assert_bad("number", (), ("turn", 9, ("net", "Q")))
        self.assert_bad("name", (1,), ("then", ("net", "Q"), ("turn", 9, A), None))
        self.assert_bad("number", (1, 1), ("then", ("then", ("turn", 9, None), None), None))
        self.assert_bad("form", (1, 2), ("then", ("turn", 1, None), ("turn", 9, A)))
        self.assert_bad("name", (2, 2), ("then", ("then", A), ("turn", 1, ("net", "Q")), ("net", "R")))

    def test_behind(self):
        self.assert_bad("behind", (1,), ("then", ENDLESS, A))
        self.assert_bad("behind", (2,), ("then", A, ENDLESS, A))
        self.assert_bad("behind", (3,), ("repeat", 1, 0, ENDLESS))
        self.assert_bad("behind", (2,), ("ever", 0, ENDLESS))
        self.assert_bad("behind", (2,), ("ever", 0, ("then", A, ENDLESS)))
        self.assert_bad("behind", (2, 1), ("then", A, ("then", ENDLESS, A)))
        self.assert_bad("behind", (2, 3), ("turn", 1, ("repeat", 2, 0, ("then", A, ("turn", 0, ENDLESS)))))
        for inside in (("turn", 1, ENDLESS), ("swap", 0, 1, ENDLESS), ("scale", ONE, ENDLESS), ("then", A, ENDLESS),
                       ("then", ENDLESS), ("turn", 1, ("then", A, ("scale", ONE, ENDLESS)))):
            self.assert_bad("behind", (1,), ("then", inside, A))
            self.assert_bad("behind", (1, 3), ("then", ("repeat", 1, 0, inside), A))
            self.assertIsNone(row_of(("then", A, inside)).length)
            self.assertIsNone(row_of(inside).length)

    def test_the_first_node_that_something_stands_behind(self):
        self.assert_bad("behind", (1,), ("then", ("then", ("turn", 0, ENDLESS)), ENDLESS, A))
        self.assert_bad("behind", (1,), ("then", ("then", ("then", ENDLESS, A), ENDLESS), A))
        self.assert_bad("behind", (1, 1), ("then", ("then", ENDLESS, A), ENDLESS, A))
        self.assert_bad("behind", (2,), ("then", A, ("ever", 0, ENDLESS), A))
        self.assert_bad("behind", (2, 2), ("then", A, ("ever", 0, ENDLESS)))
        self.assert_bad("behind", (1, 3), ("then", ("repeat", 2, 0, ENDLESS), ("ever", 0, ENDLESS)))
        self.assert_bad("behind", (2,), ("ever", 0, ("ever", 0, ENDLESS)))

    def test_behind_comes_last(self):
        self.assert_bad("form", (2,), ("then", ENDLESS, None))
        self.assert_bad("name", (2,), ("then", ENDLESS, ("net", "Q")))
        self.assert_bad("number", (2,), ("ever", 0, ("ever", 9, A)))
        self.assert_bad("size", (119,), ("then", ENDLESS) + (A,) * 118)
        self.assert_bad("behind", (1,), ("then", ENDLESS) + (A,) * 117)


def nested_thens(depth):
    plan = A
    for _ in range(depth - 1):
        plan = ("then", plan)
    return plan


class LengthTest(HeardCase):
    def test_lengths(self):
        lengths = (
            (A, 1), (("then", A), 1), (("then", A, B, A), 3), (("repeat", 7, 1, ("then", A, B)), 14),
            (("turn", 1, ("then", A, B)), 2), (("swap", 0, 1, ("repeat", 5, 0, A)), 5),
            (("scale", ONE, ("then", A, ("repeat", 3, 0, B), A)), 5), (ENDLESS, None), (("then", A, ENDLESS), None),
            (("turn", 1, ENDLESS), None), (("swap", 0, 1, ENDLESS), None), (("scale", ONE, ENDLESS), None),
            (("repeat", 10 ** 9, 1, ("repeat", 10 ** 9, 1, ("then", A, B))), 2 * 10 ** 18),
        )
        for plan, length in lengths:
            self.assertEqual(row_of(plan).length, length)
        deep = A
        for _ in range(11):
            deep = ("repeat", 10 ** 9, 1, deep)
        self.assertEqual(row_of(deep).length, 10 ** 99)

    def test_net_at_refuses_other_numbers(self):
        for row in (row_of(("then", A, B)), row_of(ENDLESS), row_of(("repeat", 10 ** 9, 0, ("then", A, B)))):
            for number in NO_INTEGERS + (0, -1, 10 ** 9 + 1, 10 ** 30):
                self.assert_raises(NoNet, [number], row.net_at, number)
            self.assertEqual(row.net_at(1), NETS[0][1])
        self.assert_raises(NoNet, [3], row_of(("then", A, B)).net_at, 3)
        self.assert_raises(NoNet, [10 ** 9], row_of(("then", A, B)).net_at, 10 ** 9)
        self.assertEqual(row_of(("repeat", 10 ** 9, 0, ("then", A, B))).net_at(10 ** 9), NETS[1][1])

    def test_nets_to(self):
        row = row_of(("then", A, B, A))
        self.assertEqual(row.nets_to(0), ())
        self.assertEqual(row.nets_to(2), (NETS[0][1], NETS[1][1]))
        self.assertEqual(row.nets_to(3), (NETS[0][1], NETS[1][1], NETS[0][1]))
        self.assertIsInstance(row.nets_to(3), tuple)
        for many in (4, 5, 1000):
            self.assert_raises(NoNet, [4], row.nets_to, many)
        self.assertEqual(row_of(ENDLESS).nets_to(1000), (NETS[0][1],) * 1000)
        self.assertEqual(len(row_of(("repeat", 10 ** 9, 1, A)).nets_to(1000)), 1000)

    def test_a_far_round_takes_no_more_work_than_a_near_one(self):
        inner = ("then", A, ("repeat", 10 ** 9, 1, ("then", A, ("turn", 1, B), ("repeat", 10 ** 9, 2, A))))
        far_end = ("repeat", 10 ** 9, 1, ("repeat", 10 ** 9, 2, A))
        for plan in (("ever", 1, ("then", A, B)), ("ever", 2, ("repeat", 7, 1, ("then", A, B))), inner, far_end):
            row = row_of(plan)
            near = max(calls_of(row, number) for number in range(1, 60))
            for number in (10 ** 9, 10 ** 9 - 1, 10 ** 8 + 7, 123456789):
                self.assertLessEqual(calls_of(row, number), near)


def calls_of(row, number):
    """How many functions are called to find the net of a round."""
    calls = [0]

    def count(frame, event, argument):
        calls[0] += event in ("call", "c_call")

    sys.setprofile(count)
    try:
        row.net_at(number)
    finally:
        sys.setprofile(None)
    return calls[0]


class CycleTest(HeardCase):
    def test_a_net_row_with_an_end_has_none(self):
        for plan in (A, ("then", A, B), ("repeat", 10 ** 9, 1, A), ("turn", 1, A)):
            self.assertIsNone(row_of(plan).cycle())

    def test_cycles_against_their_words(self):
        for row, nets, plan in some_rows(21, 200, endless=True):
            cycle = row.cycle()
            self.assert_same(cycle, cycle_of(plan, nets))
            before, period = cycle
            for number in range(before + 1, before + min(2 * period, 60) + 1):
                self.assertEqual(row.net_at(number + period), row.net_at(number))
            far = 10 ** 9 - source_of(before, period)
            self.assertEqual(row.net_at(far), row.net_at(before + (far - before - 1) % period + 1))

    def test_periods(self):
        for houses in range(1, 13):
            net = path_net(houses, ONE)
            for by in range(houses):
                row = NetRow([("A", net)], ("ever", by, ("then", A, A)))
                copies = next(many for many in range(1, 13) if many * by % houses == 0)
                self.assert_same(row.cycle(), (0, 2 * copies))
        for word in (("turn", 1), ("swap", 0, 2), ("scale", (1, 2))):
            self.assert_same(row_of(word + (("then", A, A, ("ever", 1, B)),)).cycle(), (2, 3))
        self.assert_same(row_of(("then", A, ("then", B, B, ("ever", 0, ("then", A, B))))).cycle(), (3, 2))
        self.assert_same(row_of(("then", ENDLESS)).cycle(), (0, 1))
        long = ("then", ("repeat", 10 ** 9, 0, A), ("ever", 1, ("repeat", 10 ** 9, 0, A)))
        self.assert_same(row_of(long).cycle(), (10 ** 9, 3 * 10 ** 9))


def source_of(before, period):
    return (before * 7 + period * 3) % 50


class ListRowTest(HeardCase):
    def test_names_and_plans(self):
        one, other = NETS[0][1], NETS[1][1]
        for given in ([one], (one,)):
            row = list_row(given)
            self.assertEqual(row.nets, (("A", one),))
            self.assert_same(row.plan, ("then", A))
            self.assertEqual(row.length, 1)
        row = list_row([other, one, Net(3, other.links), one])
        self.assertEqual(row.nets, (("A", other), ("B", one)))
        self.assert_same(row.plan, ("then", A, B, A, B))
        self.assert_same(list_row([other], ever=True).plan, ("ever", 0, ("then", A)))
        self.assert_same(list_row((one, other), ever=True).plan, ("ever", 0, ("then", A, B)))
        self.assert_same(list_row([one], ever=False).plan, ("then", A))
        self.assertEqual(list_row([one, other], ever=True).cycle(), (0, 2))

    def test_sixty_unlike_nets(self):
        nets = [Net(2, [(0, 1, (worth, 1))]) for worth in range(60, 0, -1)]
        letters = "ABCDEFGHIJKLMNOPQRSTUVWXYZ"
        names = list(letters) + ["A" + letter for letter in letters] + ["B" + letter for letter in letters[:8]]
        row = list_row(nets)
        self.assert_same(row.plan, ("then",) + tuple(("net", name) for name in names))
        self.assertEqual(dict(row.nets), dict(zip(names, nets)))
        self.assertEqual(row.nets_to(60), tuple(nets))
        self.assertEqual(list_row(nets, ever=True).net_at(121), nets[0])

    def test_none_or_too_many(self):
        for nets in ([], (), [NETS[0][1]] * 61):
            self.assert_raises(BadRow, ["nets", ()], list_row, nets)
            self.assert_raises(BadRow, ["nets", ()], list_row, nets, ever=True)
        self.assertEqual(list_row([NETS[0][1]] * 60).length, 60)

    def test_ever_is_passed_by_its_name_alone(self):
        with self.assertRaises(TypeError):
            list_row([LOOSE], True)

    def test_nothing_passed_in_is_changed(self):
        nets = [NETS[1][1], NETS[0][1], NETS[1][1]]
        row = list_row(nets)
        self.assertEqual(nets, [NETS[1][1], NETS[0][1], NETS[1][1]])
        nets.clear()
        self.assertEqual(row.length, 3)


def tables_or_none(row, rounds):
    """The tables of so many rounds; None for a round without a net."""
    return [table_of(row.net_at(number)) if row.length is None or number <= row.length else None
            for number in range(1, rounds + 1)]


def horizon_of(*rows):
    """A number of rounds that surely tells whether net rows are alike for ever."""
    cycles = [row.cycle() or (row.length, 1) for row in rows]
    return max(before for before, _ in cycles) + lcm(*[period for _, period in cycles]) + 1


class FirstUnlikeTest(HeardCase):
    def test_against_its_words(self):
        source = random.Random(22)
        answers = set()
        for _ in range(250):
            houses = source.randrange(1, 5)
            nets = some_nets(source, houses, 2)
            one, other = (NetRow(nets, some_plan(source, houses, ["A", "B"], source.randrange(2, 5),
                                                 source.randrange(3) > 0, 2)) for _ in range(2))
            rounds = horizon_of(one, other)
            if rounds > 700:
                continue
            unlike = [number for number, (first, second) in enumerate(
                zip(tables_or_none(one, rounds), tables_or_none(other, rounds)), 1) if first != second]
            expected = unlike[0] if unlike else None
            self.assertEqual(first_unlike(one, other), expected)
            self.assertEqual(first_unlike(other, one), expected)
            answers.add(expected)
        self.assertGreater(len(answers), 4)
        self.assertIn(None, answers)

    def test_ends(self):
        one = row_of(("then", A, B))
        self.assertIsNone(first_unlike(one, row_of(("then", ("then", A), B))))
        self.assertEqual(first_unlike(one, row_of(A)), 2)
        self.assertEqual(first_unlike(row_of(A), one), 2)
        self.assertEqual(first_unlike(one, row_of(("ever", 0, ("then", A, B)))), 3)
        self.assertEqual(first_unlike(row_of(("ever", 0, ("then", A, B))), one), 3)
        self.assertEqual(first_unlike(one, row_of(("then", A, A, B))), 2)
        self.assertEqual(first_unlike(one, row_of(("then", B, B))), 1)

    def test_names_do_not_matter_and_houses_do(self):
        renamed = NetRow([("Q", NETS[0][1]), ("R", NETS[1][1])], ("then", ("net", "Q"), ("net", "R")))
        self.assertIsNone(first_unlike(row_of(("then", A, B)), renamed))
        self.assertEqual(first_unlike(NetRow([("A", Net(2, []))], ENDLESS), NetRow([("A", Net(3, []))], ENDLESS)), 1)

    def test_all_short_cycles(self):
        for periods in ((3, 5), (2, 3), (4, 2)):
            for befores in ((0, 0), (0, 2), (3, 1)):
                source = random.Random(str((periods, befores)))
                kinds = [list(itertools.product("AB", repeat=period)) for period in periods]
                for words in itertools.product(*kinds):
                    texts, rows = [], []
                    for word, before in zip(words, befores):
                        ahead = [source.choice("AB") for _ in range(before)]
                        if source.randrange(3):
                            ahead = [words[0][at % len(words[0])] for at in range(before)]
                        texts.append("".join(ahead) + "".join(word) * 30)
                        rows.append(row_of(("then", *[("net", name) for name in ahead],
                                            ("ever", 0, ("then", *[("net", name) for name in word])))))
                    unlike = [at for at, (one, other) in enumerate(zip(*texts), 1) if one != other]
                    expected = unlike[0] if unlike else None
                    self.assertEqual(first_unlike(*rows), expected)
                    self.assertEqual(first_unlike(*rows[::-1]), expected)

    def test_late_differences_behind_what_comes_ahead_of_the_cycles(self):
        ever = row_of(ENDLESS)
        for many in (1, 2, 3, 50, 998):
            late = row_of(("then", ("repeat", many, 0, A), ("ever", 0, B)))
            self.assertEqual(first_unlike(late, ever), many + 1)
            self.assertEqual(first_unlike(ever, late), many + 1)
            later = row_of(("then", ("repeat", many, 0, A), ("ever", 0, ("then", A, B))))
            self.assertEqual(first_unlike(later, ever), many + 2)
            self.assertEqual(first_unlike(ever, later), many + 2)

    def test_late_differences_of_endless_net_rows(self):
        one = row_of(("ever", 0, ("then", ("repeat", 30, 0, A), B)))
        other = row_of(("then", ("repeat", 61, 0, A), ("ever", 0, B)))
        self.assertEqual(first_unlike(one, other), 31)
        self.assertIsNone(first_unlike(row_of(("ever", 0, ("repeat", 35, 0, A))), row_of(("ever", 0, ("then", A, A)))))
        long = row_of(("ever", 0, ("then", ("repeat", 996, 0, A), B)))
        late = row_of(("then", ("repeat", 996, 0, A), ("ever", 0, ("then", B, A, A))))
        self.assertEqual(first_unlike(long, late), 1000)

    def test_too_long(self):
        short = row_of(("repeat", 1000, 0, A))
        ever = row_of(("ever", 0, ("repeat", 1000, 0, A)))
        turned = row_of(("then", A, ("ever", 1, ("repeat", 333, 0, B))))
        for row in (short, ever, turned):
            self.assertIsNone(first_unlike(row, row))
        self.assertEqual(first_unlike(short, ever), 1001)
        too_long = [
            (1001, row_of(("repeat", 1001, 0, A))), (1001, row_of(("ever", 0, ("repeat", 1001, 0, A)))),
            (1002, row_of(("then", A, A, A, ("ever", 1, ("repeat", 333, 0, A))))),
            (10 ** 9, row_of(("repeat", 10 ** 9, 0, A))), (1001, row_of(("then", A, ever.plan))),
        ]
        for span, row in too_long:
            self.assert_raises(TooLong, [span], first_unlike, row, short)
            self.assert_raises(TooLong, [span], first_unlike, ever, row)
            for more, other in too_long:
                self.assert_raises(TooLong, [span], first_unlike, row, other)


class StretchTest(HeardCase):
    def test_stretch_net(self):
        for row, _, _ in some_rows(23, 60):
            for size in range(1, 13):
                for number in range(1, 5):
                    if row.length is not None and number * size > row.length:
                        self.assert_raises(NoNet, [row.length + 1], stretch_net, row, number, size)
                        continue
                    net = row.net_at((number - 1) * size + 1)
                    for later in range((number - 1) * size + 2, number * size + 1):
                        net = add_nets(net, row.net_at(later))
                    self.assertEqual(stretch_net(row, number, size), net)

    def test_an_end_within_a_stretch(self):
        row = row_of(("repeat", 7, 0, A))
        self.assertEqual(stretch_net(row, 2, 3), scale_net(NETS[0][1], (3, 1)))
        self.assertEqual(stretch_net(row, 1, 7), scale_net(NETS[0][1], (7, 1)))
        for number, size in ((3, 3), (2, 4), (8, 1), (1, 8), (100, 12)):
            self.assert_raises(NoNet, [8], stretch_net, row, number, size)

    def test_far_stretches(self):
        row = row_of(("ever", 1, B))
        self.assertEqual(stretch_net(row, 10 ** 8, 10),
                         sum_of([row.net_at(number) for number in range(10 ** 9 - 9, 10 ** 9 + 1)]))
        self.assertEqual(stretch_net(row, 10 ** 9, 1), row.net_at(10 ** 9))

    def test_first_apart_against_its_words(self):
        answers = set()
        for row, _, _ in some_rows(24, 250):
            for size in (1, 2, 3, 5, 12):
                before, period = row.cycle() or (row.length, 1)
                if before + period > 300:
                    continue
                rounds = row.length if row.length is not None else before + size + lcm(period, size)
                expected = None
                for number in range(1, rounds // size + 1):
                    nets = [row.net_at(at) for at in range((number - 1) * size + 1, number * size + 1)]
                    if not is_joined(sum_of(nets)):
                        expected = number
                        break
                self.assertEqual(first_apart(row, size), expected)
                self.assertEqual(first_apart(row, size=size), expected)
                if size == 1:
                    self.assertEqual(first_apart(row), expected)
                answers.add((expected, row.length is None))
        self.assertGreater(len(answers), 6)

    def test_first_apart_of_every_length(self):
        nets = NETS + (("C", LOOSE),)
        loose = ("net", "C")
        for plan, expected in (
                (("repeat", 10 ** 9, 1, ("repeat", 10 ** 9, 0, A)), None), (("ever", 1, ("repeat", 10 ** 9, 0, A)), None),
                (("then", ("repeat", 10 ** 9, 0, A), loose), 10 ** 9 + 1),
                (("repeat", 10 ** 9, 0, ("then", ("repeat", 10 ** 9, 2, A), loose)), 10 ** 9 + 1),
                (("then", ("repeat", 10 ** 9, 0, A), ("ever", 0, ("then", A, loose))), 10 ** 9 + 2),
                (("turn", 1, ("swap", 0, 1, ("scale", ONE, ("then", A, loose, A)))), 2),
                (("then", A, ("ever", 0, A)), None), (loose, 1), (("then", A, A), None)):
            self.assertEqual(first_apart(NetRow(nets, plan)), expected)
            self.assertEqual(first_apart(NetRow(nets, plan), 1), expected)

    def test_stretches_wholly_in_the_net_row_alone_are_asked(self):
        nets = NETS + (("C", LOOSE),)
        row = NetRow(nets, ("then", A, A, A, ("net", "C")))
        self.assertEqual([first_apart(row, size) for size in range(1, 6)], [4, None, None, None, None])
        self.assertEqual(first_apart(NetRow(nets, ("then", A, A, ("net", "C"), ("net", "C"))), 2), 2)
        self.assertIsNone(first_apart(NetRow(nets, ("then", A, A, ("net", "C"))), 2))

    def test_late_stretches_of_endless_net_rows(self):
        nets = NETS + (("C", LOOSE),)
        loose = ("net", "C")
        inner = ("then", A, A, A, A, loose, A, loose)
        self.assertEqual(first_apart(NetRow(nets, ("ever", 0, inner)), 2), None)
        inner = ("then", A, A, A, loose, loose, A, A)
        self.assertEqual(first_apart(NetRow(nets, ("ever", 0, inner)), 2), 6)
        self.assertEqual(first_apart(NetRow(nets, ("then", A, ("ever", 0, inner))), 2), 3)
        self.assertEqual(first_apart(NetRow(nets, ("then", A, A, A, ("ever", 0, inner))), 2), 4)

    def test_turned_nets_may_be_joined_together_alone(self):
        row = NetRow([("A", LOOSE)], ("ever", 1, A))
        self.assertEqual([first_apart(row, size) for size in (1, 2, 3)], [1, None, None])
        self.assertEqual(first_apart(NetRow([("A", LOOSE)], ("ever", 0, A)), 12), 1)
        self.assertIsNone(first_apart(NetRow([("A", Net(1, []))], ("ever", 0, A)), 12))

    def test_too_long(self):
        for plan in (("repeat", 1000, 0, A), ("ever", 0, ("repeat", 1000, 0, A)),
                     ("then", A, ("ever", 1, ("repeat", 333, 0, A)))):
            for size in (2, 7, 12):
                self.assertIsNone(first_apart(row_of(plan), size))
        for span, plan in ((1001, ("repeat", 1001, 0, A)), (1001, ("ever", 0, ("repeat", 1001, 0, A))),
                           (1002, ("then", A, A, A, ("ever", 1, ("repeat", 333, 0, A)))),
                           (10 ** 18, ("repeat", 10 ** 9, 0, ("repeat", 10 ** 9, 0, A)))):
            for size in (2, 12):
                self.assert_raises(TooLong, [span], first_apart, row_of(plan), size)
            self.assertIsNone(first_apart(row_of(plan), 1))


def sum_of(nets):
    net = nets[0]
    for other in nets[1:]:
        net = add_nets(net, other)
    return net
