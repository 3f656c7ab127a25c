"""[15.2] to [15.5] Sayings."""

import itertools
import random
import re

from headsheard.errors import BadSaying, BadText
from headsheard.sayings import HEADS, both_sayings, check_saying, holds, read_saying, saying_text
from helpers import NO_INTEGERS, NO_SEQUENCES, HeardCase, Other, as_lists

RIGHT = ("most", ((2, 0), (-3, HEADS)), 4)
TERMS = ((1, 0),)


def deep(levels, inner=RIGHT):
    """A saying that is so deep."""
    for at in range(levels - 1):
        inner = (("not", inner), ("and", (inner,)), ("or", (inner, RIGHT)))[at % 3]
    return inner


def some_saying(source, words, level=1):
    kind = source.choice(("most", "same", "most", "same", "not", "and", "or") if level < 4 else ("most", "same"))
    if kind == "not":
        return (kind, some_saying(source, words, level + 1))
    if kind in ("and", "or"):
        return (kind, tuple(some_saying(source, words, level + 1) for _ in range(source.randrange(1, 5))))
    factors = [source.choice([1, 2, 9, 10, 99, 100, 999]) * source.choice((1, -1)) for _ in range(source.randrange(1, 6))]
    number = source.choice([0, 1, 9, 10, 99999, 100000, 999999]) * source.choice((1, -1))
    return (kind, tuple((factor, source.randrange(-1, words)) for factor in factors), number)


def pattern_of(words):
    """A pattern that just the texts of sayings of these words match as a whole."""
    term = r"[1-9][0-9]{0,2}\*(?:heads|count\([0-%d]\))" % (words - 1)
    pattern = r"-?%s(?:[+-]%s){0,4}<?=(?:0|-?[1-9][0-9]{0,5})" % (term, term)
    comparison = pattern
    for _ in range(3):
        pattern = r"(?:%s|not\(%s\)|(?:and|or)\(%s(?:,%s){0,3}\))" % (comparison, pattern, pattern, pattern)
    return re.compile(pattern)


PATTERNS = {words: pattern_of(words) for words in range(1, 5)}
ENDINGS = sorted({whole[at:] for whole in ("not(1*heads=0", "and(1*heads=0", "or(-1*heads<=1", "1*count(0)=-1")
                  for at in range(len(whole) + 1)})


def can_begin(words, text):
    """Whether the text of some saying of these words begins so."""
    return any(PATTERNS[words].fullmatch(text + ending + ")" * closing)
               for ending in ENDINGS for closing in range(4))


class CheckSayingTest(HeardCase):
    def assert_bad(self, what, saying, words=2):
        self.assert_raises(BadSaying, [what], check_saying, words, saying)

    def test_right_sayings(self):
        source = random.Random(7)
        for words in range(1, 5):
            for _ in range(100):
                saying = some_saying(source, words)
                self.assert_same(check_saying(words, saying), saying)
                self.assert_same(check_saying(words, as_lists(saying)), saying)

    def test_heads_is_minus_one(self):
        self.assertEqual(HEADS, -1)

    def test_ends_of_each_range(self):
        for factor in (-999, -1, 1, 999):
            for word in (-1, 0, 3):
                for number in (-999999, 0, 999999):
                    for kind in ("most", "same"):
                        saying = (kind, ((factor, word),), number)
                        self.assert_same(check_saying(4, saying), saying)
        for many in range(1, 6):
            saying = ("same", ((1, 0),) * many, 0)
            self.assert_same(check_saying(1, saying), saying)
        for many in range(1, 5):
            for kind in ("and", "or"):
                self.assert_same(check_saying(1, (kind, (RIGHT,) * many)), (kind, (RIGHT,) * many))

    def test_saying(self):
        for thing in NO_SEQUENCES + ((), ("not",), ("most",), ("most", TERMS, 1, 1), ("nor", RIGHT), ("", RIGHT),
                                     (None, RIGHT), (["not"], RIGHT), (("not",), RIGHT), (Other(), RIGHT, 1),
                                     ("most", TERMS), ("same", TERMS), ("not", RIGHT, 1), ("and", (RIGHT,), 1),
                                     ("or", (RIGHT,), 1), ("Most", TERMS, 1), ({}, 1), (0, TERMS, 1)):
            self.assert_bad("saying", thing)
            self.assert_bad("saying", ("not", thing))
            self.assert_bad("saying", ("and", (RIGHT, thing)))
            self.assert_bad("saying", ["or", [["not", thing]]])
        for kind in ("and", "or"):
            for parts in NO_SEQUENCES + ((), [], (RIGHT,) * 5):
                self.assert_bad("saying", (kind, parts))

    def test_deep(self):
        for level in range(1, 5):
            self.assert_same(check_saying(2, deep(level)), deep(level))
        for inner in (("not", RIGHT), ("and", (RIGHT,)), ("or", (RIGHT,)), ("and", ()), ("or", 5), ("not", 5)):
            self.assert_bad("deep", deep(4, inner))
        self.assert_bad("deep", deep(9))
        self.assert_bad("deep", ("or", (RIGHT, deep(3), deep(4))))
        self.assert_bad("saying", deep(4, ("not", RIGHT, 1)))
        self.assert_bad("saying", deep(4, 5))
        self.assert_bad("terms", deep(4, ("most", (), 1)))

    def test_terms(self):
        for kind in ("most", "same"):
            for terms in NO_SEQUENCES + ((), [], ((1, 0),) * 6, (1, 0), ((1, 0), 1), ((1, 0), ()), ((1, 0, 0),),
                                         ((1,),), ("ab",), ((1, 0), "ab")):
                self.assert_bad("terms", (kind, terms, 0))

    def test_factor(self):
        for factor in NO_INTEGERS + (0, 1000, -1000, 10 ** 30):
            self.assert_bad("factor", ("most", ((factor, 0),), 0))
            self.assert_bad("factor", ("same", ((1, 0), [factor, 0]), 0))

    def test_word(self):
        for words in range(1, 5):
            for word in NO_INTEGERS + (-2, words, 10 ** 30):
                self.assert_bad("word", ("most", ((1, word),), 0), words)
                self.assert_bad("word", ("most", [[1, 0], [-1, word]], 0), words)
            for word in range(-1, words):
                self.assertEqual(check_saying(words, ("most", ((1, word),), 0))[1], ((1, word),))

    def test_number(self):
        for number in NO_INTEGERS + (1000000, -1000000):
            for kind in ("most", "same"):
                self.assert_bad("number", (kind, TERMS, number))

    def test_the_first_fault_is_told(self):
        self.assert_bad("terms", ("most", ((0, 9), 1), 10 ** 7))
        self.assert_bad("factor", ("most", ((0, 9), (1, 1)), 10 ** 7))
        self.assert_bad("word", ("most", ((1, 9), (0, 0)), 10 ** 7))
        self.assert_bad("factor", ("most", ((1, 0), (0, 9)), 10 ** 7))
        self.assert_bad("number", ("and", (("most", TERMS, 10 ** 7), ("most", (), 0))))
        self.assert_bad("terms", ("and", (("most", (), 0), ("most", TERMS, 10 ** 7))))
        self.assert_bad("saying", ("and", (("most", (), 0),) * 5))
        self.assert_bad("terms", ("or", (RIGHT, ("not", ("same", 5, 5)), 7)))
        self.assert_bad("saying", ("or", (RIGHT, ("not", 7), ("same", 5, 5))))
        self.assert_bad("saying", ("most", (), None, None))

    def test_nothing_passed_in_is_changed(self):
        for saying in (as_lists(deep(4)), as_lists(deep(5)), ["and", [["most", [[1, 9]], 0]]]):
            self.assert_unchanged(check_saying, 2, saying)


class HoldsTest(HeardCase):
    COUNTS = (((0, 0), 2), ((0, 2), 3), ((1, 0), 1))

    def test_comparisons(self):
        borne = {HEADS: 6, 0: 3, 1: 0, 2: 3, 3: 0}
        source = random.Random(8)
        for _ in range(300):
            terms = tuple((source.choice((-999, -2, -1, 1, 2, 7)), source.randrange(-1, 4))
                          for _ in range(source.randrange(1, 6)))
            worth = sum(factor * borne[word] for factor, word in terms)
            for number in (worth - 1, worth, worth + 1, 0):
                self.assertIs(holds(("most", terms, number), self.COUNTS), worth <= number)
                self.assertIs(holds(("same", terms, number), self.COUNTS), worth == number)

    def test_lit_and_unlit_houses_count_together(self):
        for word, count in ((0, 3), (2, 3), (1, 0), (HEADS, 6)):
            self.assertIs(holds(("same", ((1, word),), count), self.COUNTS), True)
            self.assertIs(holds(("same", ((1, word),), count + 1), self.COUNTS), False)
        self.assertIs(holds(("same", ((1, HEADS), (-1, 0), (-1, 1)), 0), ()), True)

    def test_counts_of_any_size(self):
        counts = (((0, 0), 10 ** 40), ((1, 1), 10 ** 40 + 5))
        self.assertIs(holds(("same", ((1, 1), (-1, 0)), 5), counts), True)
        self.assertIs(holds(("most", ((1, 1), (-1, 0)), 4), counts), False)

    def test_not_and_or(self):
        true, false = ("same", ((1, HEADS),), 6), ("same", ((1, HEADS),), 5)
        self.assertIs(holds(("not", true), self.COUNTS), False)
        self.assertIs(holds(("not", false), self.COUNTS), True)
        for many in range(1, 5):
            for truths in itertools.product((True, False), repeat=many):
                parts = tuple(true if truth else false for truth in truths)
                self.assertIs(holds(("and", parts), self.COUNTS), all(truths))
                self.assertIs(holds(("or", parts), self.COUNTS), any(truths))

    def test_deeper_sayings_are_taken(self):
        saying = ("same", ((1, HEADS),), 6)
        for level in range(2, 9):
            saying = ("not", saying)
            self.assertIs(holds(saying, self.COUNTS), level % 2 == 1)
            self.assertEqual(saying_text(saying), "not(" * (level - 1) + "1*heads=6" + ")" * (level - 1))

    def test_nothing_passed_in_is_changed(self):
        self.assert_unchanged(holds, as_lists(deep(4)), as_lists(self.COUNTS))


class SayingTextTest(HeardCase):
    def test_example_of_the_document(self):
        saying = ("and", (("most", ((2, 0), (-3, -1)), -4), ("same", ((1, 1),), 3)))
        text = "and(2*count(0)-3*heads<=-4,1*count(1)=3)"
        self.assertEqual(saying_text(saying), text)
        self.assert_same(read_saying(2, text), saying)

    def test_other_texts(self):
        texts = {
            ("same", ((-1, 3),), 0): "-1*count(3)=0",
            ("most", ((999, -1), (999, 0), (-999, 0)), 999999): "999*heads+999*count(0)-999*count(0)<=999999",
            ("not", ("or", (("most", ((1, 0),), -1),))): "not(or(1*count(0)<=-1))",
            ("same", ((-10, -1), (100, -1)), -999999): "-10*heads+100*heads=-999999",
        }
        for saying, text in texts.items():
            self.assertEqual(saying_text(saying), text)
            self.assertEqual(saying_text(as_lists(saying)), text)
            self.assert_same(read_saying(4, text), saying)

    def test_each_saying_is_read_back(self):
        source = random.Random(9)
        for words in range(1, 5):
            texts = {}
            for _ in range(150):
                saying = some_saying(source, words)
                text = saying_text(saying)
                self.assertTrue(PATTERNS[words].fullmatch(text), text)
                self.assert_same(read_saying(words, text), saying)
                self.assertEqual(texts.setdefault(text, saying), saying)

    def test_both_sayings(self):
        one, other = ("not", RIGHT), ("same", ((1, 0),), 3)
        self.assert_same(both_sayings(one, other), ("and", (one, other)))
        self.assert_same(both_sayings(as_lists(one), other), ("and", (one, other)))
        self.assert_same(both_sayings(one, as_lists(other)), ("and", (one, other)))
        self.assert_same(both_sayings(deep(4), deep(4)), ("and", (deep(4), deep(4))))
        counts = (((0, 0), 3), ((1, 1), 1))
        self.assertIs(holds(both_sayings(("same", ((1, 0),), 3), ("same", ((1, HEADS),), 4)), counts), True)
        self.assertIs(holds(both_sayings(("same", ((1, 0),), 3), ("same", ((1, HEADS),), 3)), counts), False)

    def test_nothing_passed_in_is_changed(self):
        self.assert_unchanged(saying_text, as_lists(deep(4)))
        self.assert_unchanged(both_sayings, as_lists(deep(2)), as_lists(deep(3)))


class ReadSayingTest(HeardCase):
    def assert_place(self, text, place, words=2):
        self.assert_raises(BadText, [place], read_saying, words, text)

    def test_places(self):
        places = {
            "": 0, " 1*heads=0": 0, "0*heads=0": 0, "01*heads=0": 0, "+1*heads=0": 0, "--1*heads=0": 1, "-0": 1,
            "-": 1, "1000*heads=0": 3, "999*heads=0 ": 11, "1heads=0": 1, "1*": 2, "1*Heads": 2, "1*headz": 6,
            "1*count(2)=0": 8, "1*count(1=0": 9, "1*count()=0": 8, "1*count(01)=0": 9, "1*count(-1)=0": 8,
            "1*heads==0": 8, "1*heads<0": 8, "1*heads>=0": 7, "1*heads=": 8, "1*heads=-": 9, "1*heads=-0": 9,
            "1*heads=+1": 8, "1*heads=00": 9, "1*heads=01": 9, "1*heads=1000000": 14, "1*heads=-9999999": 15,
            "1*heads<=1000000": 15, "1*heads+0*heads=0": 8, "1*heads+-1*heads=0": 8, "1*heads1*heads=0": 7,
            "1*heads+1*heads+1*heads+1*heads+1*heads+1*heads=0": 39, "1*heads=0)": 9, "1*heads=0,": 9,
            "not": 3, "not(": 4, "not1*heads=0": 3, "not()": 4, "not(1*heads=0": 13, "not(1*heads=0,": 13,
            "not(1*heads=0,1*heads=0)": 13, "not(1*heads=0))": 14, "nor": 2, "an(": 2, "o(": 1, "n": 1, "x": 0,
            "and()": 4, "and(1*heads=0,)": 14, "and(1*heads=0, 1*heads=0)": 14, "or(1*heads=0 )": 12,
            "or(1*heads=0": 12, "not (": 3, "NOT(": 0, "1*heads=\u0661": 8, "\u0661*heads=0": 0, "1*count(\u0660)": 8,
            "1*heads=1\u0660": 9, "1* heads": 2, "1*heads =0": 7, "1*heads= 0": 8, "1*heads=0\n": 9, "1*h": 3, "1*c": 3,
        }
        for text, place in places.items():
            with self.subTest(text):
                self.assert_place(text, place)

    def test_words(self):
        for words in range(1, 5):
            for word in range(10):
                text = f"1*count({word})=0"
                if word < words:
                    self.assertEqual(read_saying(words, text), ("same", ((1, word),), 0))
                else:
                    self.assert_place(text, 8, words)

    def test_five_terms_and_four_sayings(self):
        five = "+".join(["1*heads"] * 5)
        self.assertEqual(read_saying(1, five + "=0"), ("same", ((1, HEADS),) * 5, 0))
        for sign in "+-":
            self.assert_place(five + sign + "1*heads=0", len(five))
        for kind in ("and", "or"):
            four = kind + "(" + ",".join(["1*heads=0"] * 4)
            self.assertEqual(read_saying(1, four + ")"), (kind, (("same", ((1, HEADS),), 0),) * 4))
            self.assert_place(four + ",1*heads=0)", len(four))

    def test_levels(self):
        for kind in ("not", "and", "or"):
            ahead = (kind + "(") * 3
            self.assertEqual(saying_text(read_saying(1, ahead + "1*heads=0)))")), ahead + "1*heads=0)))")
            for inner in ("not", "and", "or"):
                self.assert_place(ahead + inner + "(1*heads=0))))", len(ahead))
        self.assert_place("or(1*heads=0,not(not(not(1*heads=0))))", 21)

    def test_each_place_is_the_first_from_which_on_no_text_is_right(self):
        source = random.Random(10)
        right = 0
        for at in range(500):
            words = at % 4 + 1
            text = saying_text(some_saying(source, words, source.randrange(1, 4)))
            place = source.randrange(len(text) + 1)
            kind = source.randrange(3)
            put = source.choice("0129-+*<=,()hcnao ") if kind else ""
            text = text[:place] + put + text[place + (kind < 2):]
            try:
                saying = read_saying(words, text)
            except BadText as error:
                self.assertFalse(PATTERNS[words].fullmatch(text), text)
                self.assertTrue(can_begin(words, text[:error.place]), text)
                if error.place < len(text):
                    self.assertFalse(can_begin(words, text[:error.place + 1]), text)
                continue
            right += 1
            self.assertTrue(PATTERNS[words].fullmatch(text), text)
            self.assertEqual(saying_text(saying), text)
        self.assertGreater(right, 20)

    def test_texts_cut_short_end_too_early(self):
        for text in ("and(2*count(0)-3*heads<=-4,1*count(1)=3)", "not(or(-12*heads=0,not(1*count(0)=1)))"):
            for end in range(len(text)):
                self.assert_place(text[:end], end)
        for text in ("1*heads=-", "1*heads", "12*c"):
            self.assert_place(text, len(text))
