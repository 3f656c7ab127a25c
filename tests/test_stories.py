"""[16.7] and [16.8] Stories."""

import random

from headsheard.datatext import data_text
from headsheard.desk import Desk
from headsheard.errors import BadStory
from headsheard.netrows import list_row
from headsheard.nets import Net, path_net
from headsheard.rowtext import row_text
from headsheard.stories import print_deeds, put_away, read_deeds, taken_up
from helpers import HeardCase, as_lists
from made_views import ONE
from plain_desk import PlainDesk, error_of, some_deed, tuples
from plain_worlds import some_saying
from standings import any_net, joined_net

PAIR = (2, ((0, 1, (3, 1)),))
TWO = ("same", ((1, -1),), 2)
ROW = "houses 2 net A 0-1:3/1 row ever 0 A"
LINES = (
    (("net", PAIR), "net (2 ((0 1 (3 1))))"), (("net", (1, ())), "net (1 ())"), (("rounds", ROW, 5), "rounds 5 " + ROW),
    (("rounds", ROW, 36), "rounds 36 " + ROW), (("back",), "back"), (("lamp", 0), "lamp 0"), (("cut", 11), "cut 11"),
    (("wake", 10), "wake 10"), (("guess", 9), "guess 9"), (("shares", 1), "shares 1"), (("paper", 0), "paper 0"),
    (("most", 5), "most 5"), (("most", 12), "most 12"), (("most", 1), "most 1"), (("most", None), "most none"),
    (("ask", 0, TWO), "ask 0 1*heads=2"), (("foil", 3, ("not", TWO)), "foil 3 not(1*heads=2)"),
    (("ask", 11, ("most", ((-2, 3), (1, 0)), -7)), "ask 11 -2*count(3)+1*count(0)<=-7"),
    (("answer", 0, ("heads",)), "answer 0 heads"), (("answer", 0, ("share", 1)), "answer 0 share 1"),
    (("answer", 11, ("share", 3)), "answer 11 share 3"), (("answer", 0, ("mean",)), "answer 0 mean"),
    (("answer", 0, ("most",)), "answer 0 most"))
# Lines that print_deeds writes for no deed.
WRONG = (
    "", " ", "x", "Back", "back ", " back", "back 0", "net", "net ", "net  (1 ())", "net (1 ()) ", " net (1 ())", "net (1())",
    "net (1 ( ))", "net (0 ())", "net (13 ())", "net 1", "net a", "net (1)", "net (1 () ())", "net ()", "net (1 0)",
    "net (2 ((0 1 (3 1)) (0 0 (1 1))))", "net (2 ((1 0 (3 1))))", "net (2 ((0 1 (3 1)) (0 1 (3 1))))",
    "net (2 ((0 1 (2 2))))", "net (2 ((0 2 (3 1))))", "net (2 ((0 1 (03 1))))", "net (2 ((0 1)))", "net (01 ())",
    "rounds", "rounds 5", "rounds 5 ", "rounds 0 " + ROW, "rounds 37 " + ROW, "rounds 05 " + ROW, "rounds 5  " + ROW,
    "rounds 5 " + ROW + " ", "rounds -1 " + ROW, "rounds a " + ROW, ROW, "rounds " + ROW, "rounds 5 houses 2 net A row B",
    "rounds 5 houses 2 net B 0-1:1/1 net A row A", "rounds 5 houses 2 net A 0-1:1/1 0-0:1/1 row A",
    "rounds 5 houses 13 net A row A", "rounds 5 houses 2 net A 1-0:1/1 row A", "rounds +5 " + ROW,
    "lamp", "lamp ", "lamp 12", "lamp 00", "lamp 01", "lamp -1", "lamp  0", "lamp 0 ", "lamp 0 0", "lamp a", "lamp none",
    "cut 012", "wake 99", "guess", "shares x", "paper 0\r", "paper\t0", "paper 0 0",
    "most", "most ", "most 0", "most 13", "most 05", "most None", "most none ", "most  none", "most 5 5", "most -1",
    "ask 0", "ask 0 ", "ask 12 1*heads=2", "ask 0  1*heads=2", "ask 00 1*heads=2", "ask 0 1*heads=2 ", "ask 1*heads=2",
    "ask 0 01*heads=2", "ask 0 1*count(4)=2", "ask 0 0*heads=2", "ask 0 1*heads = 2", "ask a 1*heads=2",
    "ask 0 not(not(not(not(1*heads=2))))", "foil 0 1*heads", "foil", "foil 0 1*heads=1000000",
    "answer", "answer 0", "answer 0 ", "answer 12 heads", "answer 0 head", "answer 0 heads ", "answer 0  heads",
    "answer 0 share", "answer 0 share ", "answer 0 share 4", "answer 0 share 01", "answer 0 share -1", "answer 0 share  1",
    "answer 0 share 1 ", "answer 0 mean 1", "answer 00 mean", "answer heads 0", "answer 0 heads 0", "answer 0 sharp 1",
    "desk (((0 0)) 1 0)", "desk", "log")


def right_deed(source):
    """A deed of the shapes that print_deeds takes."""
    while True:
        plain = PlainDesk([(1, 0)] + [(0, 0)] * source.randrange(12), source.randrange(1, 5), None)
        deed = some_deed(source, plain)
        if deed[0] in ("ask", "foil"):
            deed = (deed[0], deed[1], some_saying(source, 4, 4))
        if plain.refusal(deed) is None or deed[0] == "wake" and type(deed[1]) is int and deed[1] in range(12):
            return deed


def told_net(deed):
    return ("net", Net(*deed[1]).told) if deed[0] == "net" else tuples(deed)


class PrintDeedsTest(HeardCase):
    def test_each_line(self):
        for deed, line in LINES:
            self.assertEqual(print_deeds([deed]), line)
            self.assertEqual(print_deeds((as_lists(deed),)), line)
            self.assert_same(read_deeds(line), (deed,))
        self.assertEqual(print_deeds([deed for deed, _ in LINES]), "\n".join(line for _, line in LINES))
        self.assert_same(read_deeds("\n".join(line for _, line in LINES)), tuple(deed for deed, _ in LINES))

    def test_no_deeds(self):
        self.assertEqual((print_deeds(()), print_deeds([])), ("", ""))
        self.assert_same(read_deeds(""), ())

    def test_the_links_of_a_net_are_told_in_their_order(self):
        deed = ["net", [3, [[1, 2, [1, 2]], [0, 1, [3, 1]], [0, 0, [1, 1]]]]]
        line = "net (3 ((0 0 (1 1)) (0 1 (3 1)) (1 2 (1 2))))"
        self.assertEqual(print_deeds([deed]), line)
        self.assert_same(read_deeds(line), (("net", (3, ((0, 0, (1, 1)), (0, 1, (3, 1)), (1, 2, (1, 2))))),))
        self.assert_unchanged(print_deeds, [deed])

    def test_read_back(self):
        source = random.Random(1710)
        for _ in range(150):
            deeds = [right_deed(source) for _ in range(source.randrange(6))]
            text = print_deeds(deeds)
            read = read_deeds(text)
            self.assert_same(read, tuple(told_net(deed) for deed in deeds))
            self.assertEqual(print_deeds(read), text)
            self.assertEqual(text.count("\n"), max(0, len(deeds) - 1))

    def test_great_numbers(self):
        deed = ("net", (1, ((0, 0, (10 ** 29 + 1, 10 ** 29)),)))
        self.assert_same(read_deeds(print_deeds([deed])), (deed,))
        row = row_text(list_row([path_net(12, (10 ** 29, 10 ** 29 - 1))] * 3, ever=True))
        self.assert_same(read_deeds(print_deeds([("rounds", row, 9)])), (("rounds", row, 9),))


class ReadDeedsTest(HeardCase):
    def test_wrong_lines(self):
        for line in WRONG:
            if line:
                with self.subTest(line=line):
                    self.assert_raises(BadStory, (0,), read_deeds, line)
                    self.assert_raises(BadStory, (1,), read_deeds, "back\n" + line)
                    self.assert_raises(BadStory, (2,), read_deeds, "lamp 0\nback\n" + line + "\n" + line)

    def test_lines_are_ended_by_line_feeds_alone(self):
        for text, line in (("\n", 0), ("back\n", 1), ("\nback", 0), ("back\n\nback", 1), ("back\r\nback", 0),
                           ("back\rback", 0), ("back\x0bback", 0), ("back\x85back", 0), ("back;back", 0),
                           ("back\nback\n", 2), ("back\n\n", 1)):
            self.assert_raises(BadStory, (line,), read_deeds, text)

    def test_each_line_spoiled(self):
        # What is still read is the line of a deed, so it is printed again as it stands.
        source = random.Random(1711)
        refused = 0
        for _ in range(1500):
            _, line = source.choice(LINES)
            at = source.randrange(len(line) + 1)
            sign = source.choice(" 019(-)/*a\n:=")
            spoiled = source.choice((line[:at] + sign + line[at:], line[:at] + line[at + 1:], line[:at] + sign + line[at + 1:]))
            wrong = error_of(read_deeds, spoiled)
            if wrong is None:
                self.assertEqual(print_deeds(read_deeds(spoiled)), spoiled)
            else:
                self.assertIs(wrong[0], BadStory)
                refused += 1
        self.assertGreater(refused, 700)

    def test_whether_a_desk_would_do_it_is_not_looked_at(self):
        self.assertEqual(len(read_deeds("wake 3\nback\nback\nnet (5 ())\nmost 1\nlamp 11")), 6)


class DeskTextTest(HeardCase):
    def test_put_away_and_taken_up(self):
        source = random.Random(1712)
        away = 0
        for _ in range(60):
            houses = source.randrange(1, 5)
            starts = [(source.randrange(2), source.randrange(2)) for _ in range(houses)]
            desk = Desk(starts, source.randrange(2, 5), source.choice((None, houses, 12)))
            plain = PlainDesk(starts, desk.words, desk.most)
            for _ in range(source.randrange(14)):
                deed = some_deed(source, plain, 6)
                if error_of(desk.do_deed, deed) is None:
                    plain.do(tuples(deed))
            for house in source.sample(range(houses), source.randrange(2)):
                error_of(desk.do_deed, ("cut", house))
            log = desk.log
            text = put_away(desk)
            again = taken_up(text)
            self.assertIs(type(again), Desk)
            self.assertTrue(again == desk)
            self.assertEqual(put_away(again), text)
            self.assertIs(desk.log, log)
            self.assertEqual([deed for deed, _ in again],
                             [("net", net.told) for net in desk.course] + [("cut", house) for house in desk.away])
            fresh = Desk(desk.starts, desk.words, desk.most)
            for deed, told in again:
                self.assertEqual(fresh.do_deed(deed), told)
            away += len(desk.away)
            for house in desk.away:
                self.assertTrue(again.do_deed(("wake", house)) == desk.do_deed(("wake", house)) == ())
            for house in range(houses):
                self.assertEqual(again.do_deed(("shares", house)), desk.do_deed(("shares", house)))
        self.assertGreater(away, 20)

    def test_the_text(self):
        desk = Desk([(1, 0), (0, 1)], 2, 5)
        self.assertEqual(put_away(desk), "desk (((1 0) (0 1)) 2 5)")
        desk.do_deed(("net", PAIR))
        desk.do_deed(("guess", 0))
        desk.do_deed(("cut", 1))
        desk.do_deed(("cut", 0))
        self.assertEqual(put_away(desk), "desk (((1 0) (0 1)) 2 5)\nnet (2 ((0 1 (3 1))))\ncut 0\ncut 1")
        self.assertEqual(put_away(Desk([(0, 0)])), "desk (((0 0)) 1 0)")
        self.assertTrue(taken_up("desk (((0 0)) 1 0)") == Desk([(0, 0)]))
        self.assertIsNone(taken_up("desk (((0 0)) 1 0)").most)

    def test_a_full_desk(self):
        desk = Desk([(int(house == 0), 0) for house in range(12)])
        source = random.Random(1713)
        for _ in range(36):
            desk.do_deed(("net", joined_net(source, 12).told))
        text = put_away(desk)
        self.assertTrue(taken_up(text) == desk)
        self.assert_raises(BadStory, (37,), taken_up, text + text[text.index("\n"):])

    def test_wrong_first_lines(self):
        right = "desk (((1 0) (0 1)) 2 5)"
        taken_up(right)
        for line in ("", " ", "desk", "desk ", " " + right, right + " ", "desk  (((1 0) (0 1)) 2 5)", "desk 5", "desk ()",
                     "desk (((1 0) (0 1)) 2)", "desk (((1 0) (0 1)) 2 5 5)", "desk (((1 0) (0 1)) 2 1)",
                     "desk (((1 0) (0 1)) 2 13)", "desk (((1 0) (0 1)) 1 5)", "desk (((1 0) (0 1)) 0 5)",
                     "desk (((1 0) (0 1)) 2 none)", "desk (() 2 5)", "desk (((1 0) (0 4)) 2 5)", "desk (0 1 5)",
                     "desk (((1 0) (0 1)) 2 05)", "desk (((1 0) (0 1)) 2 -1)", "desk(((1 0) (0 1)) 2 5)",
                     "Desk (((1 0) (0 1)) 2 5)", "net (1 ())", "desk (((1 0) (0 1)) 5 5)", "desk ((1 0) 2 5)",
                     "desk (((1 0)) 1 (0))", "desk (((1 0)) 1 ())", "desk (((1 0)) (1) 0)", "desk " + "(" * 30):
            with self.subTest(line=line):
                self.assert_raises(BadStory, (0,), taken_up, line)
                self.assert_raises(BadStory, (0,), taken_up, line + "\nnet x")

    def test_wrong_later_lines(self):
        head, net, apart = "desk (((1 0) (0 1)) 2 5)", "net (2 ((0 1 (3 1))))", "net (2 ())"
        for lines, at in (
                ([""], 1), ([net, ""], 2), (["x"], 1), ([net, "cut 2"], 2), ([net, "cut 0", "cut 0"], 3),
                ([net, "cut 1", "cut 0"], 3), (["cut 0", net], 2), (["cut 0", "cut 1", net], 3), ([apart], 1),
                ([net, net, "net (3 ((0 1 (3 1)) (1 2 (1 1))))"], 3), (["back"], 1), ([net, "back"], 2),
                ([net, "lamp 0"], 2), ([net, "most 5"], 2), ([net, "guess 0"], 2), ([net, "cut 0", "wake 0"], 3),
                (["rounds 1 " + ROW], 1), (["ask 0 1*heads=2"], 1), ([net, "cut 00"], 2), ([net, "cut 12"], 2),
                (["net (2 ((0 1 (3 1))) )"], 1), ([apart, "x"], 1), (["x", apart], 1), ([net, head], 2),
                ([net, "cut 0", "guess 1"], 3)):
            with self.subTest(lines=lines):
                self.assert_raises(BadStory, (at,), taken_up, "\n".join([head] + lines))
                self.assert_raises(BadStory, (at,), taken_up, "\n".join([head] + lines + ["x", net]))
        self.assertEqual(len(taken_up("\n".join([head, net, net, "cut 0", "cut 1"]))), 4)
        self.assertEqual(len(taken_up("\n".join([head, "cut 1"]))), 1)
        for text in (head + "\n", head + "\n\n" + net):
            self.assert_raises(BadStory, (1,), taken_up, text)

    def test_lines_are_refused_for_just_the_told_reasons(self):
        source = random.Random(1714)
        refused = {True: 0, False: 0}
        for _ in range(300):
            lines, plain, fault = ["desk (((1 0) (0 0) (0 0)) 1 0)"], PlainDesk([(1, 0), (0, 0), (0, 0)], 1, None), None
            for at in range(1, source.randrange(2, 7)):
                if source.randrange(3):
                    deed = ("net", (any_net if source.randrange(6) == 0 else joined_net)(source, 3).told)
                else:
                    deed = ("cut", source.randrange(4))
                lines.append(deed[0] + " " + data_text(deed[1]))
                wrong = plain.refusal(deed) or (deed[0] == "cut" and plain.away and deed[1] < max(plain.away))
                if fault is None and wrong:
                    fault = at
                elif fault is None:
                    plain.do(deed)
            text = "\n".join(lines)
            refused[fault is not None] += 1
            if fault is None:
                self.assertEqual(put_away(taken_up(text)), text)
            else:
                self.assert_raises(BadStory, (fault,), taken_up, text)
        self.assertGreater(min(refused.values()), 60)


class WholeStoryTest(HeardCase):
    def test_a_story_that_is_printed_read_and_done(self):
        deeds = [("net", PAIR), ("ask", 0, TWO), ("rounds", row_text(list_row([path_net(2, ONE)] * 2)), 2), ("cut", 1),
                 ("ask", 0, TWO), ("wake", 1), ("back",), ("lamp", 1), ("most", 3), ("answer", 1, ("share", 0)),
                 ("foil", 0, ("not", TWO)), ("most", None), ("lamp", 1), ("paper", 0)]
        one, other = Desk([(1, 0), (0, 0)], 1, 5), Desk([(1, 0), (0, 0)], 1, 5)
        for deed in deeds:
            one.do_deed(deed)
        for deed in read_deeds(print_deeds(deeds)):
            other.do_deed(deed)
        self.assertTrue(one == other)
        self.assertTrue(one.log == other.log)
        self.assertEqual(print_deeds([deed for deed, _ in one]), print_deeds(deeds))
