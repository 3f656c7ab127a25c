"""[14.1] to [14.5] Tellers and lies."""

import random

from headsheard.canon import counts_of_starts
from headsheard.datatext import data_text
from headsheard.errors import BadTeller, NeedsMost, NeedsSums, NoWorld
from headsheard.facts import Facts
from headsheard.foils import Foil, find_foil, foil_fault
from headsheard.longpapers import LongPaper
from headsheard.nets import Net, path_net
from headsheard.runs import Run, walk_run
from headsheard.sure import find_sure
from headsheard.tellers import Lie, Teller, earliest_teller, first_lie, lie_fault, run_views
from headsheard.views import View, earlier_view, view_of
from helpers import NO_INTEGERS, NO_SEQUENCES, HeardCase
from made_views import ONE
from plain_worlds import small_run, some_saying, true_of
from standings import HEARINGS, joined_net, played, some_starts

TRUE = ("most", ((-1, -1),), 0)
FALSE = ("same", ((1, -1),), 0)
TWO = ("same", ((1, -1),), 2)


def text_of(view):
    return data_text(view.levels)


def is_sure(view, facts, saying):
    return isinstance(find_sure(view, facts, saying), LongPaper)


def some_views(source, history, many=8):
    """Views of houses of a history, some of them twice."""
    return [view_of(history, source.randrange(history.houses), source.randrange(history.round + 1))
            for _ in range(many)]


def lamp_views(rounds):
    """The views of the lamp of two houses that are linked with 3 in each round."""
    history = played([(1, 0), (0, 0)], [Net(2, [(0, 1, (3, 1))])] * rounds)
    return [view_of(history, 0, level) for level in range(rounds + 1)]


class TellerTest(HeardCase):
    def test_attributes(self):
        table = [["b", ["not", list(TRUE)]], ("a", TWO), ["", FALSE]]
        teller = Teller(2, table)
        table.append(("c", TRUE))
        table[0][1][0] = "x"
        self.assert_same((teller.words, teller.table), (2, (("", FALSE), ("a", TWO), ("b", ("not", TRUE)))))
        self.assertEqual(len(teller), 3)
        self.assertEqual(len(Teller(1, ())), 0)

    def test_said(self):
        views = lamp_views(3)
        teller = Teller(1, [(text_of(views[1]), TRUE), (text_of(views[3]), TWO)])
        self.assertEqual([teller.said(view) for view in views], [None, TRUE, None, TWO])
        self.assert_tuples(teller.said(views[3]))
        self.assertIsNone(Teller(1, [("no text", TRUE)]).said(views[0]))

    def test_levels_that_are_no_data(self):
        for top, said in ((10 ** 399, TRUE), (10 ** 400, None)):
            view = View([[(0, 0)], [(0, ((0, (top, 1)),))]])
            text = "(((0 0)) ((0 ((0 (" + str(top) + " 1))))))"
            self.assertEqual(Teller(1, [(text, TRUE)]).said(view), said)

    def test_equality(self):
        teller = Teller(2, [("a", TRUE), ("b", TWO)])
        self.assertTrue(teller == Teller(2, (["b", TWO], ["a", ["most", [[-1, -1]], 0]])))
        for other in (Teller(3, teller.table), Teller(2, teller.table[:1]), Teller(2, [("a", TRUE), ("c", TWO)]),
                      Teller(2, [("a", TRUE), ("b", TRUE)]), teller.table, None):
            self.assertFalse(teller == other)

    def test_errors(self):
        for words in (0, 5, -1, *NO_INTEGERS):
            self.assert_raises(BadTeller, ("words", 0), Teller, words, None)
        many = [(str(at), TRUE) for at in range(1001)]
        self.assertEqual(len(Teller(1, many[:1000])), 1000)
        for table in (*NO_SEQUENCES, many, tuple(many)):
            self.assert_raises(BadTeller, ("table", 0), Teller, 4, table)
        right = ("a", TRUE)
        for entry in (*NO_SEQUENCES, (), ("b",), ("b", TRUE, TRUE), []):
            self.assert_raises(BadTeller, ("entry", 1), Teller, 1, [right, entry])
        for text in (None, 1, True, b"b", ("b",), ["b"], ()):
            self.assert_raises(BadTeller, ("text", 1), Teller, 1, [right, (text, TRUE)])
        deep = ("not", ("not", ("not", ("not", TRUE))))
        for saying in (None, "", (), TRUE[:2], ("same", ((1, 1),), 2), ("same", ((0, 0),), 2), deep):
            self.assert_raises(BadTeller, ("saying", 1), Teller, 1, [right, ("b", saying)])
        self.assert_raises(BadTeller, ("twice", 2), Teller, 1, [right, ("b", TRUE), ("a", TWO)])

    def test_the_first_fault(self):
        self.assert_raises(BadTeller, ("table", 0), Teller, 1, [None] * 1001)
        self.assert_raises(BadTeller, ("entry", 0), Teller, 1, [None, (1, 1)])
        self.assert_raises(BadTeller, ("text", 0), Teller, 1, [(1, 1), None])
        self.assert_raises(BadTeller, ("saying", 1), Teller, 1, [("a", TRUE), ("a", None)])
        self.assert_raises(BadTeller, ("twice", 1), Teller, 1, [("a", TRUE), ("a", TRUE), None])

    def test_nothing_is_changed(self):
        self.assert_unchanged(Teller, 1, [["b", ["not", [*TRUE]]], ["a", [*TWO]]])


class FirstLieTest(HeardCase):
    def test_tellers_that_say_what_is_sure_and_tellers_that_say_more(self):
        source = random.Random(1410)
        told = {"none": 0, "lie": 0}
        for _ in range(90):
            history, facts = small_run(source, most=4, rounds=4)
            views = some_views(source, history)
            sayings = {text_of(view): some_saying(source, facts.words) for view in views if source.randrange(3)}
            if source.randrange(2):
                for view in views:
                    text = text_of(view)
                    if text in sayings and not is_sure(view, facts, sayings[text]):
                        sayings[text] = ("not", sayings[text])
                        if not is_sure(view, facts, sayings[text]):
                            del sayings[text]
            teller = Teller(facts.words, list(sayings.items()))
            wrong = [at for at, view in enumerate(views)
                     if text_of(view) in sayings and not is_sure(view, facts, sayings[text_of(view)])]
            lie = first_lie(teller, facts, views)
            if not wrong:
                self.assertIsNone(lie)
                told["none"] += 1
                continue
            told["lie"] += 1
            self.assertIs(type(lie), Lie)
            self.assert_same((lie.at, lie.saying), (wrong[0], sayings[text_of(views[wrong[0]])]))
            self.assertIsNone(foil_fault(views[lie.at], facts, lie.saying, lie.foil))
            self.assertIsNone(lie_fault(teller, facts, lie))
        self.assertTrue(min(told.values()) > 20, told)

    def test_the_same_view_again(self):
        views = lamp_views(2)
        teller = Teller(1, [(text_of(views[2]), TWO), (text_of(views[1]), TWO)])
        self.assertIsNone(first_lie(teller, Facts(5), [views[2], views[2], views[0]]))
        lie = first_lie(teller, Facts(5), (views[2], views[2], views[0], views[1], views[1]))
        self.assertEqual(lie.at, 3)

    def test_nothing_said(self):
        for facts in (Facts(None), Facts(3, hearing="which"), Facts(3, 0)):
            self.assertIsNone(first_lie(Teller(1, ()), facts, lamp_views(2)))
            self.assertIsNone(first_lie(Teller(1, [("a", FALSE)]), facts, lamp_views(2)))
        self.assertIsNone(first_lie(Teller(1, [(text_of(lamp_views(0)[0]), FALSE)]), Facts(None), ()))

    def test_errors(self):
        views = lamp_views(2)
        teller = Teller(1, [(text_of(views[1]), FALSE)])
        for facts, error in ((Facts(None, hearing="which"), NeedsSums), (Facts(None), NeedsMost), (Facts(3, 0), NoWorld),
                             (Facts(1), NoWorld)):
            self.assert_raises(error, (), first_lie, teller, facts, views)
            self.assertIsNone(first_lie(teller, facts, views[:1]))


class LieFaultTest(HeardCase):
    def setUp(self):
        self.views = lamp_views(2)
        self.facts = Facts(5)
        self.teller = Teller(1, [(text_of(self.views[1]), TWO), (text_of(self.views[2]), TWO)])
        self.lie = first_lie(self.teller, self.facts, self.views)

    def ask(self, fault, saying=TWO, teller=None, facts=None, **told):
        names = ("starts", "nets", "house")
        foil = Foil(*[told.get(name, getattr(self.lie.foil, name)) for name in names])
        for at in (1, 0, 99, None):
            self.assert_same(lie_fault(self.teller if teller is None else teller, facts or self.facts, Lie(at, saying, foil)), fault)

    def test_right(self):
        self.ask(None)
        self.ask(None, nets=list(self.lie.foil.nets))
        self.assertIsNone(lie_fault(self.teller, self.facts, self.lie))

    def test_foil(self):
        net = path_net(3, ONE)
        for nets in (*NO_SEQUENCES, (net,) * 37, [net] * 40, (Net(3, [(0, 1, ONE)]),), (path_net(2, ONE),)):
            self.ask("foil", nets=nets)
        for starts in (None, (), ((1, 0),) * 3, ((1, 0), (0, 1), (0, 0)), ((1, 0),) + ((0, 0),) * 5, ((1, 0), (0, 0))):
            self.ask("foil", starts=starts)
        for house in (-1, 3, *NO_INTEGERS):
            self.ask("foil", house=house)

    def test_silent(self):
        # The foil has as many rounds as it has nets; its house may have any view.
        self.ask("silent", nets=())
        self.ask("silent", nets=(path_net(3, ONE),) * 36)
        self.ask("silent", house=0)
        self.ask("silent", TRUE)
        self.ask("silent", teller=Teller(1, ()))
        self.ask("silent", teller=Teller(1, [(text_of(self.views[1]), TRUE)]))

    def test_true(self):
        right = Foil(((1, 0), (0, 0)), (Net(2, [(0, 1, (3, 1))]),), 0)
        self.assert_same(lie_fault(self.teller, self.facts, Lie(1, TWO, right)), "true")
        # At round 2 the saying is sure, so no foil without fault shows a lie there.
        later = Foil(right.starts, right.nets * 2, 0)
        self.assert_same(lie_fault(self.teller, self.facts, Lie(1, TWO, later)), "true")

    def test_facts_of_all_kinds(self):
        for hearing in HEARINGS:
            foil = self.lie.foil
            view = view_of(played(foil.starts, foil.nets, hearing), foil.house)
            teller = Teller(1, [(text_of(view), TWO)])
            self.ask(None, teller=teller, facts=Facts(None, 1, 1, hearing))

    def test_what_lies_is_found_in_some_foil(self):
        # Whoever says at a view what is not sure there lies where the foil of this saying is played.
        source = random.Random(1411)
        lies = 0
        for _ in range(40):
            history, facts = small_run(source)
            view = view_of(history, 0)
            saying = some_saying(source, facts.words)
            teller = Teller(facts.words, [(text_of(view), saying)])
            foil = find_foil(view, facts, saying)
            if foil is not None:
                lies += 1
                self.assertIsNone(lie_fault(teller, facts, Lie(0, saying, foil)))
                self.assertFalse(true_of(saying, counts_of_starts(foil.starts)))
        self.assertGreater(lies, 15)


class LieTest(HeardCase):
    def test_it_keeps_what_it_is_given(self):
        foil = Foil((), (), 0)
        lie = Lie(3, TRUE, foil)
        self.assertEqual((lie.at, lie.saying), (3, TRUE))
        self.assertIs(lie.foil, foil)
        self.assertTrue(lie == Lie(3, TRUE, Foil((), (), 0)))
        for other in (Lie(2, TRUE, foil), Lie(3, TWO, foil), Lie(3, TRUE, Foil((), (), 1)), None, (3, TRUE, foil)):
            self.assertFalse(lie == other)


class EarliestTellerTest(HeardCase):
    def test_over_all_views_of_a_run(self):
        source = random.Random(1412)
        said = 0
        for _ in range(30):
            houses = source.randrange(1, 5)
            facts = Facts(source.randrange(houses, 6), 1, 3)
            run = Run([joined_net(source, houses) for _ in range(4)], some_starts(source, houses, 3), facts)
            list(walk_run(run, source.randrange(5)))
            views = run_views(run)
            saying = some_saying(source, 3)
            teller = earliest_teller(facts, views, saying)
            self.assertIs(type(teller), Teller)
            sure = {text_of(view) for view in views if is_sure(view, facts, saying)}
            self.assert_same((teller.words, teller.table), (3, tuple((text, saying) for text in sorted(sure))))
            self.assertIsNone(first_lie(teller, facts, views))
            said += len(teller)
            for text in {text_of(view) for view in views} - sure:
                more = Teller(3, teller.table + ((text, saying),))
                self.assertIsNotNone(first_lie(more, facts, views))
        self.assertGreater(said, 40)

    def test_no_views(self):
        for facts in (Facts(None, words=2), Facts(3, hearing="which", words=2), Facts(3, 0, 2)):
            self.assertTrue(earliest_teller(facts, (), TRUE) == Teller(2, ()))

    def test_errors(self):
        for facts, error in ((Facts(None, hearing="which"), NeedsSums), (Facts(None), NeedsMost), (Facts(3, 0), NoWorld)):
            self.assert_raises(error, (), earliest_teller, facts, lamp_views(1), TRUE)

    def test_a_view_whose_levels_are_no_data(self):
        # No teller can speak of such a view.
        great = View([[(0, 0)], [(0, ((0, (10 ** 400, 1)),))]])
        teller = earliest_teller(Facts(2, 0), [great, earlier_view(great, 0)], TRUE)
        self.assertTrue(teller == Teller(1, [("(((0 0)))", TRUE)]))
        self.assertIsNone(first_lie(teller, Facts(2, 0), [great]))

    def test_a_saying_as_lists(self):
        views = lamp_views(2)
        teller = earliest_teller(Facts(5), views, ["same", [[1, -1]], 2])
        self.assertTrue(teller == Teller(1, [(text_of(views[2]), TWO)]))


class RunViewsTest(HeardCase):
    def test_level_by_level(self):
        source = random.Random(1413)
        for at in range(12):
            houses, stretch = source.randrange(1, 5), source.choice((1, 1, 2, 3))
            starts = some_starts(source, houses, 2)
            nets = [joined_net(source, houses) for _ in range(6)]
            run = Run(nets, starts, Facts(words=2, hearing=HEARINGS[at % 2], stretch=stretch))
            rounds = source.randrange(7)
            list(walk_run(run, rounds))
            again = Run(nets, starts, run.facts)
            views = [again.view_at(house) for house in range(houses)]
            for number in walk_run(again, rounds):
                if number % stretch == 0:
                    views += [again.view_at(house) for house in range(houses)]
            told = run_views(run)
            self.assertIs(type(told), tuple)
            self.assertEqual(list(told), views)
            self.assertEqual(run.round, rounds)
