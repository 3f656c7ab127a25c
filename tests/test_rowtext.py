"""[4.11] Net rows as texts."""

import itertools
import random
import re

from headsheard.errors import BadNet, BadRow, BadText
from headsheard.netrows import NetRow, list_row
from headsheard.nets import Net, path_net
from headsheard.rowtext import read_row, row_text
from helpers import HeardCase
from plans import ENDLESS, ONE, some_nets, some_plan

EXAMPLE = "houses 3 net A 0-1:1/2 1-2:3/1 net B 0-2:1/1 row ( A ever 1 B )"
FIGURES = "(?:0|[1-9][0-9]{0,39})"
NAME = "[A-Z]{1,4}"
SHAPES = {
    "number": FIGURES, "name": NAME, "amount": f"{FIGURES}/{FIGURES}",
    "link": f"{FIGURES}-{FIGURES}:{FIGURES}/{FIGURES}",
}
NODES = {"repeat": ["number", "number"], "ever": ["number"], "turn": ["number"], "swap": ["number", "number"],
         "scale": ["amount"]}


def expected_place(text):
    """The place of the first word that cannot stand, or None: by a stack of what has to come."""
    awaited = ["end", ("plan", 1), "=row", "nets", "name", "=net", "number", "=houses"]
    place = 0
    for word in text.split(" "):
        following = follow(awaited, word)
        if following is None:
            return place
        awaited = following
        place += len(word) + 1
    return None if awaited == ["end"] else len(text)


def follow(awaited, word):
    """What has to come behind a word, or None if the word cannot stand here."""
    rest, due = awaited[:-1], awaited[-1]
    if due == "nets":
        if re.fullmatch(SHAPES["link"], word):
            return awaited
        return rest + ["nets", "name"] if word == "net" else follow(rest, word)
    if isinstance(due, tuple) and due[0] == "parts":
        return rest if word == ")" else follow(rest + [due, ("plan", due[1])], word)
    if isinstance(due, tuple):
        depth = due[1]
        if depth > 12:
            return None
        if re.fullmatch(NAME, word):
            return rest
        if word == "(":
            return rest + [("parts", depth + 1), ("plan", depth + 1)]
        return rest + [("plan", depth + 1)] + NODES[word][::-1] if word in NODES else None
    if due.startswith("="):
        return rest if word == due[1:] else None
    return rest if due != "end" and re.fullmatch(SHAPES[due], word) else None


def row_at(depth):
    """A net row with a plan that is so deep."""
    plan = ("net", "A")
    for _ in range(depth - 1):
        plan = ("turn", 0, plan)
    return NetRow([("A", path_net(2, ONE))], plan)


def some_row(source):
    houses = source.randrange(1, 6)
    nets = some_nets(source, houses, source.randrange(1, 5))
    return NetRow(nets, some_plan(source, houses, [name for name, _ in nets], source.randrange(2, 6),
                                  source.randrange(2) == 0))


class RowTextTest(HeardCase):
    def test_example_of_the_document(self):
        nets = [("B", Net(3, [(0, 2, ONE)])), ("A", Net(3, [(1, 2, (3, 1)), (0, 1, (1, 2))]))]
        row = NetRow(nets, ("then", ("net", "A"), ("ever", 1, ("net", "B"))))
        self.assertEqual(row_text(row), EXAMPLE)
        self.assertEqual(read_row(EXAMPLE), row)

    def test_each_word(self):
        nets = [("A", Net(3, [])), ("XYZW", Net(3, [(0, 0, (10 ** 39, 3)), (0, 2, ONE)]))]
        ahead = f"houses 3 net A net XYZW 0-0:{10 ** 39}/3 0-2:1/1 row "
        for plan, words in (
                (("net", "XYZW"), "XYZW"), (("then", ("net", "A")), "( A )"),
                (("then", ("net", "A"), ("then", ("net", "XYZW"))), "( A ( XYZW ) )"),
                (("repeat", 10 ** 9, 2, ("net", "A")), "repeat 1000000000 2 A"), (("ever", 0, ("net", "A")), "ever 0 A"),
                (("turn", 2, ("net", "A")), "turn 2 A"), (("swap", 2, 0, ("net", "A")), "swap 2 0 A"),
                (("scale", (1, 2), ("then", ("net", "A"), ("net", "A"))), "scale 1/2 ( A A )"),
                (("turn", 0, ("swap", 0, 1, ("scale", (3, 1), ("ever", 1, ("repeat", 1, 0, ("net", "A")))))),
                 "turn 0 swap 0 1 scale 3/1 ever 1 repeat 1 0 A")):
            row = NetRow(nets, plan)
            self.assertEqual(row_text(row), ahead + words)
            self.assertEqual(read_row(ahead + words), row)

    def test_each_net_row_is_read_back(self):
        source = random.Random(30)
        for _ in range(400):
            row = some_row(source)
            text = row_text(row)
            self.assertIsNone(expected_place(text))
            self.assertEqual(read_row(text), row)

    def test_most_of_all(self):
        letters = ["".join(name) for name in itertools.product("ABCDEFGH", repeat=2)][:60]
        row = NetRow([(name, path_net(12, ONE)) for name in letters], ("then",) + (("net", "AA"),) * 119)
        self.assertEqual(read_row(row_text(row)), row)
        self.assertEqual(read_row(row_text(row_at(12))), row_at(12))
        row = list_row([Net(2, [(0, 1, (10 ** 40 - 1, 10 ** 40 - 2))])], ever=True)
        self.assertEqual(read_row(row_text(row)), row)

    def test_nets_and_links_in_any_order(self):
        text = "houses 3 net B 0-2:1/1 net A 1-2:3/1 0-1:1/2 row ( A ever 1 B )"
        self.assertEqual(read_row(text), read_row(EXAMPLE))
        self.assertEqual(row_text(read_row(text)), EXAMPLE)


class ReadRowTest(HeardCase):
    def assert_place(self, text, place):
        self.assert_raises(BadText, [place], read_row, text)
        self.assertEqual(expected_place(text), place)

    def assert_word_refused(self, ahead, word, behind=""):
        """The word cannot stand behind these words."""
        self.assert_place(" ".join([ahead, word] + ([behind] if behind else [])), len(ahead) + 1)

    def test_the_first_words(self):
        self.assert_place("", 0)
        self.assert_place(" houses 3", 0)
        self.assert_place("house 3", 0)
        self.assert_place("Houses 3", 0)
        self.assert_place("houses", 6)
        self.assert_place("houses ", 7)
        self.assert_place("houses 3", 8)
        self.assert_place("houses 3 ", 9)
        self.assert_place("houses\n3", 0)
        for word in ("", "03", "-3", "+3", "3.", "a", "net", "3\t", "\u0663", "1" * 41, "00", "0x3"):
            self.assert_word_refused("houses", word, "net A row A")
        for word in ("row", "A", "0-1:1/1", "", "Net", "nets", "houses", "4", "("):
            self.assert_word_refused("houses 3", word, "A row A")

    def test_names_and_links(self):
        for word in ("", "a", "ABCDE", "Aa", "A1", "net", "row", "0-1:1/1", "(", "\u00c4", "A\n"):
            self.assert_word_refused("houses 3 net", word, "row A")
        for word in ("", "0-1", "0-1:1", "0-1:1/", "0-1:/1", "-1:1/1", "0-:1/1", "01:1/1", "0-1:1/1/1", "0-1-2:1/1",
                     "0-1:1:1/1", "00-1:1/1", "0-01:1/1", "0-1:01/1", "0-1:1/02", "0-1:-1/1", "0--1:1/1", "a-1:1/1",
                     "0-1:1/1,", "A", "(", "ever", "0:1-1/1", "0-1/1:1", "/", "-:/", "0-1:" + "1" * 41 + "/1",
                     "0-1:1/" + "1" * 41, "1" * 41 + "-1:1/1", "0-" + "1" * 41 + ":1/1", "Row", "0-1;1/1", "0_1:1/1"):
            self.assert_word_refused("houses 3 net A", word, "row A")
            self.assert_word_refused("houses 3 net A 0-1:1/2 net B 1-2:1/1", word, "row A")
        self.assert_place("houses 3 net", 12)
        self.assert_place("houses 3 net A", 14)
        self.assert_place("houses 3 net A 0-1:1/1", 22)
        self.assert_place("houses 3 net A row", 18)
        self.assert_place("houses 3 net A row ", 19)

    def test_plans(self):
        ahead = "houses 3 net A row"
        for word in ("", "a", ")", "net", "row", "0", "1/2", "ABCDE", "then", "Ever", "()", "(A", "A)", "houses"):
            self.assert_word_refused(ahead, word, "A")
        for word in (")", "", "row", "1"):
            self.assert_word_refused(ahead + " (", word)
            self.assert_word_refused(ahead + " ( A (", word)
        for word in ("", "row", "1", "1/2", "((", "net"):
            self.assert_word_refused(ahead + " ( A", word)
        for node in ("repeat", "repeat 1", "ever", "turn", "swap", "swap 0"):
            for word in ("", "A", "(", "-1", "01", "1/2", "ever", "1" * 41, "x"):
                self.assert_word_refused(ahead + " " + node, word, "A")
        for word in ("", "A", "1", "1/", "/1", "01/2", "1/02", "1/2/3", "-1/2", "1" * 41 + "/1", "1/" + "1" * 41, "1:2"):
            self.assert_word_refused(ahead + " scale", word, "A")
        for node in ("repeat 1 0", "ever 0", "turn 0", "swap 0 1", "scale 1/1"):
            for word in ("", "0", "1/1", ")", "row", "net"):
                self.assert_word_refused(ahead + " " + node, word)
        for whole in ("A", "( A )", "ever 0 A", "repeat 1 0 ( A )"):
            for word in ("", "A", ")", "(", "row", "net", "0", "0-1:1/1", "ever"):
                self.assert_word_refused(ahead + " " + whole, word)

    def test_depth(self):
        ahead = "houses 2 net A 0-1:1/1 row"
        for word in ("(", "turn 0", "ever 0", "scale 1/1", "swap 0 1"):
            deep = ahead + (" " + word) * 12
            for node in ("A", "(", "turn", "repeat", "scale", ")", ""):
                self.assert_word_refused(deep, node)
            self.assert_place(deep, len(deep))
        closed = ahead + " (" * 11 + " A" + " )" * 11
        self.assertEqual(row_text(read_row(closed)), closed)
        self.assert_word_refused(ahead + " (" * 11 + " A (", "A", ")" + " )" * 11)

    def test_cut_short_at_each_place(self):
        source = random.Random(31)
        for text in [EXAMPLE] + [row_text(some_row(source)) for _ in range(40)]:
            for end in range(len(text)):
                self.judge(text[:end])
                if text[end - 1:end] == " ":
                    self.assert_place(text[:end], end)

    def test_a_word_left_out_put_in_or_exchanged(self):
        source = random.Random(32)
        words_put = ["", "houses", "net", "row", "A", "XYZW", "ABCDE", "(", ")", "ever", "turn", "repeat", "swap", "scale",
                     "0", "1", "01", "1/2", "0-1:1/2", "0-1", "then"]
        refused = 0
        for _ in range(3000):
            words = row_text(some_row(source)).split(" ")
            at = source.randrange(len(words) + 1)
            kind = source.randrange(3)
            words[at:at + (kind < 2)] = [source.choice(words_put)] if kind else []
            refused += self.judge(" ".join(words))
        self.assertGreater(refused, 1500)

    def test_a_sign_left_out_put_in_or_exchanged(self):
        source = random.Random(33)
        refused = 0
        for _ in range(3000):
            text = row_text(some_row(source))
            at = source.randrange(len(text) + 1)
            kind = source.randrange(3)
            text = text[:at] + (source.choice(" 019-:/()AZaet\n") if kind else "") + text[at + (kind < 2):]
            refused += self.judge(text)
        self.assertGreater(refused, 1500)

    def judge(self, text):
        """Read a text as the words tell; whether it is refused for its words."""
        place = expected_place(text)
        if place is not None:
            self.assert_raises(BadText, [place], read_row, text)
            return True
        try:
            row = read_row(text)
        except (BadNet, BadRow):
            return False
        self.assertEqual(read_row(row_text(row)), row)
        return False


class ReadThingsTest(HeardCase):
    """What is asked behind the words."""

    def assert_refused(self, error, attributes, text):
        self.assertIsNone(expected_place(text))
        self.assert_raises(error, attributes, read_row, text)

    def test_nets(self):
        for houses in ("0", "13", "1" * 40):
            self.assert_refused(BadNet, ["houses", 0], f"houses {houses} net A row A")
        self.assert_refused(BadNet, ["house", 1], "houses 3 net A 0-1:1/1 0-3:1/1 row A")
        self.assert_refused(BadNet, ["order", 0], "houses 3 net A 1-0:1/1 0-3:1/1 row A")
        self.assert_refused(BadNet, ["strength", 0], "houses 3 net A 0-1:2/2 row A")
        self.assert_refused(BadNet, ["strength", 0], "houses 3 net A 0-1:0/1 row A")
        self.assert_refused(BadNet, ["strength", 0], "houses 3 net A 0-1:1/0 row A")
        self.assert_refused(BadNet, ["twice", 1], "houses 3 net A 0-1:1/1 0-1:1/1 row A")

    def test_nets_are_made_in_the_order_of_the_text(self):
        self.assert_refused(BadNet, ["order", 0], "houses 3 net B 1-0:1/1 net A 0-3:1/1 row A")
        self.assert_refused(BadNet, ["house", 0], "houses 3 net A 0-3:1/1 net B 1-0:1/1 row A")

    def test_rows(self):
        self.assert_refused(BadRow, ["twice", (2,)], "houses 3 net B net A net B row A")
        self.assert_refused(BadRow, ["name", (2, 2)], "houses 3 net A row ( A ever 0 B )")
        self.assert_refused(BadRow, ["number", ()], "houses 3 net A row turn 3 A")
        self.assert_refused(BadRow, ["number", ()], "houses 3 net A row repeat 0 0 A")
        self.assert_refused(BadRow, ["number", ()], "houses 3 net A row repeat 1000000001 0 A")
        self.assert_refused(BadRow, ["number", (2,)], "houses 3 net A row ever 0 swap 1 1 A")
        self.assert_refused(BadRow, ["number", ()], "houses 3 net A row scale 2/4 A")
        self.assert_refused(BadRow, ["number", ()], "houses 3 net A row scale 0/1 A")
        self.assert_refused(BadRow, ["behind", (1,)], "houses 3 net A row ( ever 0 A A )")
        self.assert_refused(BadRow, ["size", (120,)], "houses 3 net A row (" + " A" * 120 + " )")
        self.assertEqual(read_row("houses 3 net A row (" + " A" * 119 + " )").length, 119)
        names = ["".join(name) for name in itertools.product("ABCDEFGH", repeat=2)][:61]
        self.assert_refused(BadRow, ["nets", ()], "houses 1" + "".join(" net " + name for name in names) + " row AA")
        self.assertEqual(len(read_row("houses 1" + "".join(" net " + name for name in names[:60]) + " row AA").nets), 60)

    def test_words_come_ahead_of_nets_and_nets_ahead_of_rows(self):
        self.assert_raises(BadText, [27], read_row, "houses 3 net A 1-0:1/1 row ) ")
        self.assert_raises(BadText, [22], read_row, "houses 13 net A row Q A ")
        self.assert_refused(BadNet, ["houses", 0], "houses 13 net A net A row Q")
        self.assert_refused(BadNet, ["twice", 1], "houses 3 net A net A 0-0:1/1 0-0:1/1 row Q")
        self.assert_refused(BadRow, ["twice", (1,)], "houses 3 net A net A row Q")

    def test_forty_and_forty_one_figures(self):
        great = "9" * 40
        row = read_row(f"houses 2 net A 0-1:{great}/1 row scale 1/{great} A")
        self.assertEqual(row.nets[0][1].links, ((0, 1, (int(great), 1)),))
        self.assertEqual(row.plan, ("scale", (1, int(great)), ("net", "A")))
        self.assertEqual(row.net_at(1), Net(2, [(0, 1, ONE)]))
        self.assert_refused(BadRow, ["number", ()], f"houses 2 net A row repeat {great} 0 A")
        self.assert_raises(BadText, [24], read_row, f"houses 2 net A row ever {great}1 A")

    def test_endless_rows(self):
        self.assertEqual(read_row("houses 3 net A row ever 0 A"), NetRow([("A", Net(3, []))], ENDLESS))
