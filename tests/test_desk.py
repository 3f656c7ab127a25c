"""[16.1] to [16.6] Desks."""

import itertools
import random

from headsheard.datatext import data_text, read_data
from headsheard.desk import Desk, Trial
from headsheard.errors import (
    Away, BadDeed, BadFacts, BadNet, BadRow, BadSaying, BadStarts, BadStrength, BadText, FullDesk, HeadError, NeedsLamp,
    NeedsMost, NoHouse, NoNet, NotAway, NotJoined, WrongNet)
from headsheard.foils import Foil
from headsheard.houses import House
from headsheard.netrows import list_row
from headsheard.nets import Net, complete_net, path_net, ring_net
from headsheard.rowtext import row_text
from headsheard.shortpapers import ShortPaper
from helpers import NO_INTEGERS, NO_SEQUENCES, HeardCase, Other, as_lists
from made_views import ONE
from plain_desk import PlainDesk, error_of, some_deed, tuples
from standings import joined_net

TWO = ("same", ((1, -1),), 2)
TRUE = ("most", ((-1, -1),), 0)
PAIR = (2, ((0, 1, (3, 1)),))


def some_desk(source):
    houses = source.randrange(1, 5)
    lamps = source.choice((0, 1, 1, 1, houses))
    starts = [(int(at < lamps), source.randrange(3)) for at in range(houses)]
    source.shuffle(starts)
    return starts, 3, source.choice((None, houses, houses + 1, 6))


def pair_desk(rounds=0, most=5):
    """Two houses, the first one lit, linked with 3 in each round."""
    desk = Desk([(1, 0), (0, 0)], 1, most)
    for _ in range(rounds):
        desk.do_deed(("net", PAIR))
    return desk


def state_of(desk):
    return (desk.starts, desk.words, desk.most, tuple(net.told for net in desk.course), desk.away)


class DrawnDeedsTest(HeardCase):
    def assert_told(self, told, asked, deed):
        if callable(asked):
            self.assertTrue(asked(told), deed)
        else:
            self.assert_same(told, asked)

    def assert_state(self, desk, plain):
        nets = tuple(net.told for net in plain.nets)
        self.assert_same(state_of(desk), (tuple(plain.starts), plain.words, plain.most, nets, tuple(sorted(plain.away))))
        self.assertEqual(len(desk), len(plain.log))
        self.assertEqual([deed for deed, _ in desk], plain.log)

    def test_against_a_plain_second_desk(self):
        source = random.Random(1610)
        told, refused = {}, {}
        for _ in range(60):
            starts, words, most = some_desk(source)
            desk, plain = Desk(starts, words, most), PlainDesk(starts, words, most)
            for _ in range(30):
                deed = some_deed(source, plain)
                wrong = plain.refusal(deed)
                if wrong:
                    log = desk.log
                    self.assert_raises(wrong[0], wrong[1], desk.do_deed, deed)
                    self.assertIs(desk.log, log)
                    refused[wrong[0]] = refused.get(wrong[0], 0) + 1
                else:
                    self.assert_told(desk.do_deed(deed), plain.do(tuples(deed)), deed)
                    plain.log.append(tuples(deed))
                    told[deed[0]] = told.get(deed[0], 0) + 1
                self.assert_state(desk, plain)
        self.assertTrue(len(told) == 13 and min(told.values()) > 15, told)
        for error in (BadDeed, NoHouse, Away, NotAway, BadText, WrongNet, NoNet, NotJoined, BadFacts, NeedsLamp,
                      NeedsMost, BadSaying):
            self.assertGreater(refused.get(error, 0), 2, (error, refused))

    def test_what_a_desk_tells_hangs_on_its_state_alone(self):
        source = random.Random(1611)
        asked = 0
        for _ in range(25):
            starts, words, most = some_desk(source)
            desk, plain = Desk(starts, words, most), PlainDesk(starts, words, most)
            for _ in range(25):
                deed = some_deed(source, plain, 6)
                if error_of(desk.do_deed, deed) is None:
                    plain.do(tuples(deed))
            other = Desk(desk.starts, desk.words, desk.most)
            for net in desk.course:
                other.do_deed(("net", net.told))
            for house in desk.away:
                other.do_deed(("cut", house))
            self.assertTrue(desk == other)
            for _ in range(12):
                deed = some_deed(source, plain, 6)
                if deed[0] == "wake":
                    continue
                one, two = desk.trial_deeds([deed]), other.trial_deeds([deed])
                self.assertTrue(one == two)
                asked += one.refused is None
        self.assertGreater(asked, 80)

    def test_trials(self):
        source = random.Random(1612)
        seen = {True: 0, False: 0}
        for _ in range(50):
            starts, words, most = some_desk(source)
            desk, plain = Desk(starts, words, most), PlainDesk(starts, words, most)
            for _ in range(source.randrange(8)):
                deed = some_deed(source, plain, 5)
                if error_of(desk.do_deed, deed) is None:
                    plain.do(tuples(deed))
            before, log = state_of(desk), desk.log
            deeds, tolds, refused = [], [], None
            for at in range(source.randrange(9)):
                deeds.append(some_deed(source, plain, 5))
                if refused is None and plain.refusal(deeds[-1]):
                    refused = at
                elif refused is None:
                    tolds.append(plain.do(tuples(deeds[-1])))
            trial = desk.trial_deeds(source.choice((list, tuple))(deeds))
            self.assertIs(type(trial), Trial)
            self.assert_same(trial.refused, refused)
            self.assertIs(type(trial.tolds), tuple)
            self.assertEqual(len(trial.tolds), len(tolds))
            for told, asked, deed in zip(trial.tolds, tolds, deeds):
                self.assert_told(told, asked, deed)
            self.assertEqual(state_of(desk), before)
            self.assertIs(desk.log, log)
            seen[refused is None] += 1
            # The desk goes on as it would have done.
            for deed, told in zip(deeds[:len(tolds)], tolds):
                self.assert_told(desk.do_deed(deed), told, deed)
        self.assertGreater(min(seen.values()), 15)


class DeskTest(HeardCase):
    def test_attributes(self):
        starts = [[1, 0], [0, 1]]
        desk = Desk(starts, 2)
        starts[0][0] = 0
        self.assert_same((desk.starts, desk.words, desk.most, desk.course, desk.away, desk.log),
                         (((1, 0), (0, 1)), 2, None, (), (), ()))
        self.assertEqual((len(desk), list(desk)), (0, []))
        self.assertEqual((Desk([(0, 0)]).words, Desk([(0, 0)]).most), (1, None))
        self.assertEqual(Desk([(0, 0)], most=4).most, 4)

    def test_errors(self):
        for starts in (*NO_SEQUENCES, (), ((0, 0),) * 13):
            self.assert_raises(BadStarts, ("many", 0), Desk, starts, None, None)
        self.assert_raises(BadStarts, ("word", 1), Desk, [(0, 0), (0, 4)], 9, 99)
        for most in (0, 13, -1, True, False, 1.0, "1", (1,)):
            self.assert_raises(BadFacts, ("most",), Desk, [(0, 0)], 9, most)
        self.assert_raises(BadFacts, ("lamps",), Desk, [(1, 0), (1, 0)], 9, 1)
        for words in (0, 5, None, True, "1"):
            self.assert_raises(BadFacts, ("words",), Desk, [(0, 0), (0, 3)], words, 1)
        self.assert_raises(BadFacts, ("most",), Desk, [(0, 0), (0, 3)], 2, 1)
        self.assert_raises(BadFacts, ("words",), Desk, [(0, 0), (0, 3)], 3, 2)

    def test_the_log_is_tuples_through_and_through(self):
        desk = pair_desk(3)
        deeds = [["ask", 0, ["and", [["same", [[1, -1]], 2]]]], ["answer", 1, ["share", 0]], ["net", as_lists(PAIR)],
                 ["most", 4], ["guess", 0], ["cut", 1], ["wake", 1], ["back"]]
        tolds = [desk.do_deed(deed) for deed in deeds]
        deeds[0][2][1].append("x")
        self.assert_tuples(desk.log)
        self.assertEqual([told for _, told in desk.log[3:]], tolds)
        self.assertEqual(desk.log[3][0], ("ask", 0, ("and", (("same", ((1, -1),), 2),))))
        self.assertEqual(desk.log[5][0], ("net", PAIR))
        self.assertEqual(list(desk), list(desk.log))
        self.assertEqual(len(desk), 11)

    def test_equality(self):
        desk = pair_desk(2)
        other = pair_desk(1)
        self.assertFalse(desk == other)
        other.do_deed(("guess", 0))
        other.do_deed(("rounds", row_text(list_row([Net(*PAIR)])), 1))
        self.assertTrue(desk == other)
        self.assertNotEqual(desk.log, other.log)
        self.assertFalse(desk == pair_desk(2, 4))
        self.assertFalse(desk == pair_desk(2, None))
        self.assertFalse(Desk([(0, 0)], 1) == Desk([(0, 0)], 2))
        self.assertFalse(Desk([(0, 0)]) == Desk([(1, 0)]))
        other.do_deed(("cut", 1))
        self.assertFalse(desk == other)
        other.do_deed(("wake", 1))
        self.assertTrue(desk == other)
        for thing in (desk.log, list(desk), None, Other()):
            self.assertFalse(desk == thing)

    def test_nothing_is_changed(self):
        desk = pair_desk(2)
        for deed in (["net", as_lists(PAIR)], ["ask", 0, ["not", ["same", [[1, -1]], 2]]], ["answer", 0, ["mean"]]):
            self.assert_unchanged(desk.do_deed, deed)
            self.assert_unchanged(desk.trial_deeds, [deed, deed])


class ChangingDeedsTest(HeardCase):
    def test_guesses_are_told_where_they_are_new(self):
        desk = pair_desk()
        counts = (((0, 0), 1), ((1, 0), 1))
        self.assert_same(desk.do_deed(("net", PAIR)), ())
        self.assert_same(desk.do_deed(("net", PAIR)), ((0, counts), (1, counts)))
        self.assert_same(desk.do_deed(("net", PAIR)), ())
        desk.do_deed(("back",))
        desk.do_deed(("back",))
        self.assert_same(desk.do_deed(("rounds", row_text(list_row([Net(*PAIR)], ever=True)), 9)),
                         ((0, counts), (1, counts)))
        self.assert_same(desk.do_deed(("lamp", 0)), ())
        self.assert_same(desk.do_deed(("net", PAIR)), ())
        self.assertIsNone(desk.do_deed(("guess", 0)))
        self.assert_same(desk.do_deed(("shares", 0)), (((0, 0), 1),))

    def test_guesses_that_change_or_get_lost(self):
        source = random.Random(1613)
        changes = 0
        for _ in range(60):
            houses = source.randrange(3, 6)
            desk = Desk([(int(house == 0), 0) for house in range(houses)])
            before = {house: None for house in range(houses)}
            for _ in range(7):
                net = joined_net(source, houses, ((1, 1), (1, 2)))
                told = dict(desk.do_deed(("net", net.told)))
                now = {house: desk.do_deed(("guess", house)) for house in range(houses)}
                for house in range(houses):
                    if house in told:
                        self.assertEqual(told[house], now[house])
                        self.assertNotEqual(before[house], now[house])
                        changes += before[house] is not None
                    else:
                        self.assertTrue(now[house] in (None, before[house]))
                before = now
        self.assertGreater(changes, 3)

    def test_lamps_are_lit_and_put_out_and_all_nets_stay(self):
        desk = pair_desk(4)
        desk.do_deed(("lamp", 1))
        self.assert_same(desk.starts, ((1, 0), (1, 0)))
        self.assertEqual(len(desk.course), 4)
        self.assert_same(desk.do_deed(("guess", 0)), (((1, 0), 2),))
        desk.do_deed(("lamp", 0))
        self.assert_same(desk.do_deed(("guess", 0)), (((0, 0), 1), ((1, 0), 1)))
        desk.do_deed(("lamp", 1))
        desk.do_deed(("lamp", 0))
        self.assertTrue(desk == pair_desk(4))

    def test_most(self):
        desk = pair_desk(1, None)
        self.assert_raises(NeedsMost, (), desk.do_deed, ("ask", 0, TWO))
        self.assert_same(desk.do_deed(("most", 2)), ())
        self.assert_same(desk.do_deed(("ask", 0, TWO)), ("yes", 1))
        desk.do_deed(("most", 8))
        self.assert_same(desk.do_deed(("ask", 0, TWO)), ("open", 1))
        desk.do_deed(("most", None))
        self.assertTrue(desk == pair_desk(1, None))
        for most in (0, 1, 13, -1, True, 2.0, "2", (2,), ()):
            self.assert_raises(BadFacts, ("most",), desk.do_deed, ("most", most))

    def test_houses_cut_and_woken(self):
        desk = pair_desk(2)
        view = House.taken_up(read_data(desk.do_deed(("cut", 1)))).view
        self.assert_same(desk.away, (1,))
        self.assertEqual(view.round, 2)
        text = data_text(((5, 1, 1, "sums", 1), view.levels, 0, ()))
        self.assertEqual(desk.log[-1], (("cut", 1), text))
        self.assert_same(desk.do_deed(("ask", 0, TWO)), ("yes", 2))
        for deed in (("net", PAIR), ("rounds", row_text(list_row([Net(*PAIR)])), 1), ("back",), ("lamp", 0),
                     ("lamp", 1), ("most", 3), ("cut", 1), ("ask", 1, TWO), ("guess", 1), ("shares", 1), ("paper", 1),
                     ("answer", 1, ("heads",)), ("foil", 1, TWO)):
            self.assert_raises(Away, (1,), desk.do_deed, deed)
        desk.do_deed(("cut", 0))
        self.assert_same(desk.away, (0, 1))
        self.assert_raises(Away, (0,), desk.do_deed, ("most", 99))
        self.assert_same(desk.do_deed(("wake", 1)), ())
        self.assert_raises(Away, (0,), desk.do_deed, ("back",))
        desk.do_deed(("wake", 0))
        self.assert_raises(NotAway, (1,), desk.do_deed, ("wake", 1))
        self.assertTrue(desk == pair_desk(2))
        desk.do_deed(("net", PAIR))
        self.assertEqual(desk.do_deed(("paper", 1)).found, 3)

    def test_back_with_no_net_laid(self):
        desk = pair_desk(1)
        self.assert_same(desk.do_deed(("back",)), ())
        for _ in range(2):
            self.assert_raises(NoNet, (0,), desk.do_deed, ("back",))
        self.assertTrue(desk == pair_desk())

    def test_a_full_desk(self):
        desk = pair_desk(0, None)
        text = row_text(list_row([Net(*PAIR)], ever=True))
        apart = row_text(list_row([Net(*PAIR), Net(2, [])], ever=True))
        desk.do_deed(("rounds", text, 35))
        self.assert_raises(FullDesk, (), desk.do_deed, ("rounds", text, 2))
        self.assert_raises(FullDesk, (), desk.do_deed, ("rounds", apart, 2))
        self.assert_raises(NotJoined, (36,), desk.do_deed, ("net", (2, ())))
        desk.do_deed(("net", PAIR))
        self.assertEqual(len(desk.course), 36)
        for deed in (("net", PAIR), ("rounds", text, 1), ("net", (2, ()))):
            self.assert_raises(FullDesk, (), desk.do_deed, deed)
        self.assertEqual(desk.do_deed(("paper", 0)).found, 36)
        desk.do_deed(("back",))
        desk.do_deed(("rounds", text, 1))
        desk = pair_desk()
        desk.do_deed(("rounds", text, 36))
        self.assertEqual((len(desk.course), len(desk)), (36, 1))
        self.assert_raises(FullDesk, (), pair_desk(1).do_deed, ("rounds", text, 36))

    def test_rounds(self):
        desk = Desk([(1, 0), (0, 0), (0, 0)])
        row = list_row([path_net(3, ONE), ring_net(3, (1, 2)), Net(3, [(0, 1, ONE)])])
        text = row_text(row)
        self.assert_raises(NotJoined, (3,), desk.do_deed, ("rounds", text, 3))
        self.assertEqual(desk.course, ())
        desk.do_deed(("rounds", text, 2))
        self.assertEqual(desk.course, row.nets_to(2))
        self.assert_raises(NotJoined, (5,), desk.do_deed, ("rounds", text, 3))
        self.assert_raises(NoNet, (4,), desk.do_deed, ("rounds", text, 4))
        self.assertEqual(len(desk.course), 2)

    def test_twelve_houses(self):
        desk = Desk([(int(house == 4), house % 4) for house in range(12)], 4)
        text = row_text(list_row([path_net(12, ONE), complete_net(12, (1, 2))], ever=True))
        told = desk.do_deed(("rounds", text, 36))
        self.assertEqual([house for house, _ in told], list(range(12)))
        self.assertEqual(desk.do_deed(("paper", 7)).houses, 12)


class AskingDeedsTest(HeardCase):
    def test_yes_no_and_open(self):
        desk = pair_desk(1)
        opposite = ("not", TWO)
        for saying in (TWO, opposite):
            self.assert_same(desk.do_deed(("ask", 0, saying)), ("open", 1))
        self.assert_same(desk.do_deed(("ask", 0, TRUE)), ("yes", 0))
        self.assert_same(desk.do_deed(("ask", 0, ("not", TRUE))), ("no", 0))
        for _ in range(3):
            desk.do_deed(("net", PAIR))
        self.assert_same(desk.do_deed(("ask", 0, TWO)), ("yes", 2))
        self.assert_same(desk.do_deed(("ask", 0, opposite)), ("no", 2))
        self.assert_same(desk.do_deed(("ask", 0, ("most", ((-1, -1),), -2))), ("yes", 1))

    def test_a_saying_that_is_four_deep(self):
        desk = pair_desk(2)
        deep = ("not", ("not", ("not", TWO)))
        self.assert_same(desk.do_deed(("ask", 0, deep)), ("no", 2))
        self.assert_raises(BadSaying, ("deep",), desk.do_deed, ("ask", 0, ("not", deep)))

    def test_answers(self):
        desk = pair_desk(1)
        self.assertIsNone(desk.do_deed(("answer", 0, ("heads",))))
        self.assert_same(desk.do_deed(("answer", 0, ("mean",))), (0, 1))
        self.assert_same(desk.do_deed(("answer", 0, ["share", 0])), (1, 1))
        self.assert_same(desk.do_deed(("answer", 0, ("most",))), 0)
        desk.do_deed(("net", PAIR))
        self.assert_same(desk.do_deed(("answer", 0, ("heads",))), 2)

    def test_foils_and_papers(self):
        desk = pair_desk(1)
        foil = desk.do_deed(("foil", 0, TWO))
        self.assertIs(type(foil), Foil)
        self.assertEqual(len(foil.starts), 3)
        self.assertIsNone(desk.do_deed(("foil", 0, TRUE)))
        self.assertIsNone(desk.do_deed(("paper", 0)))
        for _ in range(2):
            desk.do_deed(("net", PAIR))
        self.assertIsNone(desk.do_deed(("foil", 0, TWO)))
        paper = desk.do_deed(("paper", 0))
        self.assertIs(type(paper), ShortPaper)
        self.assertIs(desk.log[-1][1], paper)

    def test_what_only_asks_changes_the_log_alone(self):
        desk = pair_desk(3)
        before = state_of(desk)
        for at, deed in enumerate((("guess", 0), ("shares", 1), ("paper", 0), ("ask", 0, TWO), ("foil", 1, TWO),
                                   ("answer", 0, ("heads",)))):
            desk.do_deed(deed)
            self.assertEqual((state_of(desk), len(desk)), (before, 4 + at))


class RefusalsTest(HeardCase):
    def test_shape(self):
        desk = pair_desk(1)
        text = row_text(list_row([Net(*PAIR)]))
        wrong = [*NO_SEQUENCES, (), [], ("nets", PAIR), ("Net", PAIR), (None,), (1, 2), (["net"], PAIR), (("net",), PAIR),
                 (True, 0), ({}, 0), ("net",), ("net", PAIR, 1), ("net", 2, ()), ("rounds", text), ("rounds", text, 1, 1),
                 ("back", 0), ("lamp",), ("lamp", 0, 0), ("most",), ("most", 3, 3), ("cut",), ("wake",), ("guess",),
                 ("shares",), ("paper",), ("paper", 0, 0), ("ask", 0), ("ask", 0, TWO, 1), ("answer", 0), ("foil", 0)]
        for kind in ("lamp", "cut", "wake", "guess", "shares", "paper"):
            wrong += [(kind, house) for house in NO_INTEGERS]
        for kind in ("ask", "foil", "answer"):
            wrong += [(kind, house, ("heads",)) for house in NO_INTEGERS]
        wrong += [("rounds", text, many) for many in (0, 37, -1, *NO_INTEGERS)]
        wrong += [("rounds", thing, 1) for thing in (None, 1, True, b"houses", (text,), [text])]
        wrong += [("net", thing) for thing in (*NO_SEQUENCES, (), (2,), (2, (), ()), [2])]
        for question in (*NO_SEQUENCES, (), ("head",), ("heads", 0), ("share",), ("share", 1), ("share", -1),
                         ("share", 0, 0), ("share", None), ("share", True), ("share", "0"), ("mean", 0), ("most", 0),
                         (1,), (None,), (("heads",),), (["share"], 0)):
            wrong.append(("answer", 0, question))
        log = desk.log
        for deed in wrong:
            with self.subTest(deed=deed):
                self.assert_raises(BadDeed, (), desk.do_deed, deed)
                self.assertEqual(desk.trial_deeds([deed]).refused, 0)
        self.assertIs(desk.log, log)

    def test_house_behind_shape(self):
        desk = pair_desk(1)
        desk.do_deed(("cut", 0))
        for house in (-1, 2, 99):
            for deed in (("lamp", house), ("cut", house), ("wake", house), ("guess", house), ("paper", house),
                         ("ask", house, None), ("answer", house, ("heads",)), ("foil", house, None)):
                self.assert_raises(NoHouse, (house,), desk.do_deed, deed)

    def test_away_behind_house_and_ahead_of_all_else(self):
        desk = pair_desk(0, None)
        desk.do_deed(("lamp", 1))
        desk.do_deed(("cut", 1))
        for deed in (("net", (99, None)), ("rounds", "x", 1), ("back",), ("most", 99), ("paper", 1), ("ask", 1, None),
                     ("foil", 1, None), ("answer", 1, ("mean",)), ("lamp", 0), ("cut", 1)):
            self.assert_raises(Away, (1,), desk.do_deed, deed)
        self.assert_raises(NotAway, (0,), desk.do_deed, ("wake", 0))
        # A house that is not away may be asked and cut.
        self.assert_raises(NeedsLamp, (), desk.do_deed, ("paper", 0))
        desk.do_deed(("shares", 0))
        desk.do_deed(("cut", 0))

    def test_nets(self):
        desk = pair_desk(35, None)
        three = (3, ((0, 1, ONE),))
        for net, error, told in (
                ((0, ()), BadNet, ("houses", 0)), ((2, 5), BadNet, ("links", 0)), ((True, ()), BadNet, ("houses", 0)),
                ((3, ((0, 3, ONE),)), BadNet, ("house", 0)), ((2, ((0, 1, (2, 2)),)), BadNet, ("strength", 0)),
                (three, WrongNet, (3,)), ((1, ()), WrongNet, (1,)), ((2, ()), NotJoined, (36,)),
                ((2, ((0, 0, ONE), (1, 1, ONE))), NotJoined, (36,))):
            self.assert_raises(error, told, desk.do_deed, ("net", net))
        desk.do_deed(("net", PAIR))
        self.assert_raises(WrongNet, (3,), desk.do_deed, ("net", three))
        self.assert_raises(FullDesk, (), desk.do_deed, ("net", (2, ())))

    def test_rounds(self):
        desk = pair_desk(35, None)
        row = "houses 2 net A 0-1:3/1 net B row ( A B )"
        for text, many, error, told in (
                ("", 1, BadText, (0,)), (row + " ", 1, BadText, (len(row) + 1,)), ("houses 13 net A row A", 1, BadNet,
                                                                                  ("houses", 0)),
                ("houses 2 net A row B", 1, BadRow, ("name", ())),
                ("houses 3 net A row A", 9, WrongNet, (3,)), (row, 3, NoNet, (3,)), (row, 36, NoNet, (3,)),
                (row, 2, FullDesk, ()), ("houses 2 net B row B", 1, NotJoined, (36,))):
            self.assert_raises(error, told, desk.do_deed, ("rounds", text, many))
        self.assert_raises(NotJoined, (2,), pair_desk().do_deed, ("rounds", row, 2))
        pair_desk().do_deed(("rounds", row, 1))

    def test_papers(self):
        for starts in ([(0, 0)], [(1, 0), (1, 0)]):
            self.assert_raises(NeedsLamp, (), Desk(starts).do_deed, ("paper", 0))
        self.assertIsNone(Desk([(1, 0)]).do_deed(("paper", 0)))

    def test_sayings_then_most(self):
        for kind in ("ask", "foil"):
            desk = pair_desk(1, None)
            for saying, what in ((None, "saying"), ((), "saying"), (("same", ((1, 1),), 2), "word"),
                                 (("same", ((0, 0),), 2), "factor"), (("same", (), 2), "terms"),
                                 (("same", ((1, 0),), None), "number"), (Other(), "saying"), ({1: 2}, "saying")):
                self.assert_raises(BadSaying, (what,), desk.do_deed, (kind, 0, saying))
            self.assert_raises(NeedsMost, (), desk.do_deed, (kind, 0, TWO))
        self.assert_raises(NeedsMost, (), desk.do_deed, ("answer", 0, ("heads",)))

    def test_a_refused_deed_changes_nothing(self):
        desk = pair_desk(2)
        desk.do_deed(("cut", 1))
        before, log = state_of(desk), desk.log
        for deed in (("net", PAIR), ("wake", 0), ("cut", 1), ("most", 1), ("ask", 0, None), ("back",), None):
            with self.assertRaises(HeadError):
                desk.do_deed(deed)
            self.assertEqual(state_of(desk), before)
            self.assertIs(desk.log, log)
        desk.do_deed(("wake", 1))
        desk.do_deed(("net", PAIR))
        self.assertTrue(desk == pair_desk(3))

    def test_things_that_hold_themselves(self):
        endless = []
        endless.append(endless)
        long = TWO
        for _ in range(2000):
            long = ("not", long)
        desk = pair_desk(1)
        for deed, error, told in ((endless, BadDeed, ()), (("ask", 0, endless), BadSaying, ("saying",)),
                                  (("ask", 0, long), BadSaying, ("deep",)), (("net", endless), BadDeed, ()),
                                  (("net", [2, endless]), BadNet, ("form", 0)), (("most", endless), BadFacts, ("most",)),
                                  (("answer", 0, endless), BadDeed, ())):
            self.assert_raises(error, told, desk.do_deed, deed)
            self.assertEqual(desk.trial_deeds([deed]).refused, 0)

    def test_errors_of_nets_are_their_own(self):
        self.assertTrue(issubclass(BadStrength, HeadError))
        self.assert_raises(BadNet, ("strength", 0), pair_desk().do_deed, ("net", (2, ((0, 1, None),))))


class TrialTest(HeardCase):
    def test_trials_of_nothing(self):
        for deeds in ((), []):
            trial = pair_desk(1).trial_deeds(deeds)
            self.assertEqual((trial.tolds, trial.refused), ((), None))

    def test_a_trial_that_is_refused(self):
        desk = pair_desk(1)
        trial = desk.trial_deeds([("net", PAIR), ("cut", 0), ("net", PAIR), ("wake", 0)])
        counts = (((0, 0), 1), ((1, 0), 1))
        self.assertEqual((trial.tolds[0], len(trial.tolds), trial.refused), (((0, counts), (1, counts)), 2, 2))
        self.assertTrue(desk == pair_desk(1))
        self.assertEqual(len(desk), 1)

    def test_a_trial_of_houses_away(self):
        desk = pair_desk(1)
        desk.do_deed(("cut", 1))
        for _ in range(2):
            trial = desk.trial_deeds([("wake", 1), ("net", PAIR), ("cut", 0)])
            self.assertEqual((trial.refused, trial.tolds[0]), (None, ()))
            self.assertEqual(desk.away, (1,))
        desk.do_deed(("wake", 1))

    def test_equality(self):
        trial = Trial(((), None), 2)
        self.assertEqual((trial.tolds, trial.refused), (((), None), 2))
        self.assertTrue(trial == Trial(((), None), 2))
        for other in (Trial(((), None), None), Trial(((),), 2), (((), None), 2), None):
            self.assertFalse(trial == other)


class ManyOrdersTest(HeardCase):
    def test_deeds_in_any_order_that_lead_to_one_state(self):
        changes = (("lamp", 1), ("most", 4), ("net", PAIR))
        told = []
        for order in itertools.permutations(changes):
            desk = pair_desk(2)
            for deed in order:
                desk.do_deed(deed)
            told.append((state_of(desk), desk.do_deed(("guess", 0)), desk.do_deed(("ask", 1, TWO)),
                         desk.do_deed(("answer", 0, ("heads",)))))
        self.assertEqual(len({repr(one) for one in told}), 1)
