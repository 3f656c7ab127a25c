"""[2.1] to [2.5] Texts of plain data."""

import random
import re

from headsheard.datatext import data_text, read_data
from headsheard.errors import BadData, BadText
from helpers import HeardCase, Other, as_lists

ENTRY = re.compile(r"0|-?[1-9][0-9]{0,399}|[a-z]{1,12}")


def is_right(text):
    """Whether this is the text of some data, by cutting the innermost tuples away."""
    for _ in range(20):
        text = re.sub(r"\((?:%s)?(?: (?:%s))*\)" % (("#|" + ENTRY.pattern,) * 2),
                      lambda found: found[0] if found[0].startswith("( ") else "#", text)
    return text == "#" or ENTRY.fullmatch(text) is not None


def can_begin(text):
    """Whether the text of some data begins so."""
    for entry in ("", "1", "a"):
        for closing in range(21):
            if is_right(text + entry + ")" * closing):
                return True
    return False


def nested(depth, inner=()):
    """A tuple that is so deep."""
    for _ in range(depth - 1):
        inner = (inner,)
    return inner


def some_data(source, depth):
    kind = source.randrange(6 if depth else 4)
    if kind < 2:
        return source.randrange(-10 ** source.randrange(1, 40), 10 ** source.randrange(1, 40))
    if kind < 4:
        return "".join(source.choice("abcxyz") for _ in range(source.randrange(1, 13)))
    return tuple(some_data(source, depth - 1) for _ in range(source.randrange(5)))


class DataTextTest(HeardCase):
    def assert_text(self, data, text):
        self.assertEqual(data_text(data), text)
        self.assertEqual(data_text(as_lists(data)), text)
        self.assert_same(read_data(text), data)

    def test_examples_of_the_document(self):
        self.assert_text(0, "0")
        self.assert_text(-7, "-7")
        self.assert_text(40, "40")
        self.assert_text((), "()")
        self.assert_text("sums", "sums")
        self.assert_text((2, ((0, 0), (1, 0)), "sums"), "(2 ((0 0) (1 0)) sums)")

    def test_other_data(self):
        self.assert_text(((),), "(())")
        self.assert_text(((), 1, ()), "(() 1 ())")
        self.assert_text((-1, "a", (10,)), "(-1 a (10))")

    def test_figures(self):
        for figures in (1, 2, 64, 65, 399, 400):
            for number in (10 ** figures - 1, 10 ** (figures - 1)):
                self.assert_text(number, str(number))
                self.assert_text(-number, "-" + str(number))
                self.assert_text((number, -number), f"({number} -{number})")
        for number in (10 ** 400, 10 ** 400 + 1, 10 ** 401, 10 ** 5000):
            self.assert_raises(BadData, [], data_text, number)
            self.assert_raises(BadData, [], data_text, -number)
            self.assert_raises(BadData, [], data_text, (1, (number,)))

    def test_letters(self):
        for letters in range(1, 13):
            self.assert_text("z" * letters, "z" * letters)
            self.assert_text("a" * letters, "a" * letters)
        for word in ("", "a" * 13, "a1", "A", "aB", "a b", "a_", "0", "-", "(", "\u00e9", "`a", "a{", " a", "a\n"):
            self.assert_raises(BadData, [], data_text, word)
            self.assert_raises(BadData, [], data_text, [1, [word]])

    def test_depth(self):
        for inner in ((), (1,), ("a", 2)):
            for depth in (1, 2, 19, 20):
                self.assertEqual(read_data(data_text(nested(depth, inner))), nested(depth, inner))
            for depth in (21, 22, 60):
                self.assert_raises(BadData, [], data_text, nested(depth, inner))
        self.assert_raises(BadData, [], data_text, (1, nested(20)))

    def test_no_data(self):
        within = []
        within.append(within)
        for thing in (None, True, False, 1.0, b"a", {}, {1}, {"a": 1}, 1j, range(2), Other(), within):
            self.assert_raises(BadData, [], data_text, thing)
            self.assert_raises(BadData, [], data_text, (1, thing))
            self.assert_raises(BadData, [], data_text, [[thing]])

    def test_each_data_is_read_back(self):
        source = random.Random(4)
        texts = {}
        for _ in range(600):
            data = some_data(source, 5)
            text = data_text(data)
            self.assertTrue(is_right(text))
            self.assert_text(data, text)
            self.assertEqual(texts.setdefault(text, data), data)

    def test_nothing_passed_in_is_changed(self):
        for data in ([1, ["a", []], (2, [3])], [1, [None]]):
            self.assert_unchanged(data_text, data)


class ReadDataTest(HeardCase):
    def assert_place(self, text, place):
        self.assert_raises(BadText, [place], read_data, text)

    def test_examples_of_the_document(self):
        for text, place in (("(1 ", 3), ("(1", 2), ("(1  2)", 3), ("01", 1), ("-0", 1), ("1 2", 1), ("", 0)):
            self.assert_place(text, place)

    def test_what_is_no_string(self):
        for thing in (None, 1, b"1", ["1"], ("1",), True, Other()):
            self.assert_place(thing, 0)

    def test_figures(self):
        for figures in (400, 399):
            text = "9" * figures
            self.assertEqual(read_data(text), int(text))
            self.assertEqual(read_data("(-" + text + ")"), (-int(text),))
        self.assert_place("9" * 401, 400)
        self.assert_place("-" + "1" * 401, 401)
        self.assert_place("(a " + "1" * 500 + ")", 403)

    def test_letters(self):
        self.assertEqual(read_data("abcdefghijkl"), "abcdefghijkl")
        self.assert_place("abcdefghijklm", 12)
        self.assert_place("(1 abcdefghijklm)", 15)
        self.assertEqual(read_data("(az zz a)"), ("az", "zz", "a"))

    def test_depth(self):
        self.assertEqual(read_data("(" * 20 + ")" * 20), nested(20))
        self.assertEqual(read_data("(" * 20 + "1 a" + ")" * 20), nested(20, (1, "a")))
        self.assert_place("(" * 21 + ")" * 21, 20)
        self.assert_place("(1 " + "(" * 20, 22)
        self.assertEqual(read_data("(" + "(" * 19 + ")" * 19 + " " + "(" * 19 + ")" * 19 + ")"),
                         (nested(19), nested(19)))

    def test_places(self):
        places = {
            "-": 1, "--1": 1, "+1": 0, "00": 1, "-01": 1, "1a": 1, "a1": 1, "1-": 1, " 1": 0, "1 ": 1, "(": 1, ")": 0,
            "( )": 1, "( 1)": 1, "(1 )": 3, "()()": 2, "() ": 2, "(1,2)": 2, "(1))": 3, "(a-1)": 2, "(0 00)": 4,
            "(1\t2)": 2, "1\n": 1, "A": 0, "aB": 1, "(1 A)": 3, "\u00e9": 0, "a\u00e9": 1, "\u0661": 0, "1\u0661": 1,
            "(()": 3, "(() ": 4, "(-)": 2, "(- 1)": 2, "[1]": 0, "`": 0, "a{": 1, "/": 0, ":": 0, "1:": 1, "1/2": 1,
            "((1 2) (3 4": 11, "((1 2)(3 4))": 6, "a-": 1, "_": 0, "1_000": 1, "(1(2))": 2, "0-": 1, "\x00": 0,
        }
        for text, place in places.items():
            self.assert_place(text, place)

    def test_each_place_is_the_first_from_which_on_no_text_is_right(self):
        source = random.Random(5)
        right = 0
        for _ in range(1500):
            if source.randrange(2):
                text = "".join(source.choice("()  -01a5b") for _ in range(source.randrange(1, 9)))
            else:
                text = data_text(some_data(source, 3))
                at = source.randrange(len(text) + 1)
                kind = source.randrange(3)
                put = source.choice("() -01aA.") if kind else ""
                text = text[:at] + put + text[at + (kind < 2):]
            try:
                data = read_data(text)
            except BadText as error:
                self.assertFalse(is_right(text), text)
                self.assertTrue(can_begin(text[:error.place]), text)
                if error.place < len(text):
                    self.assertFalse(can_begin(text[:error.place + 1]), text)
                continue
            right += 1
            self.assertTrue(is_right(text), text)
            self.assertEqual(data_text(data), text)
        self.assertGreater(right, 100)

    def test_texts_cut_short_end_too_early(self):
        source = random.Random(6)
        for _ in range(60):
            text = data_text((some_data(source, 3), some_data(source, 2)))
            for end in range(len(text)):
                self.assert_place(text[:end], end)
