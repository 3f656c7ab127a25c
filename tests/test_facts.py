"""[1.9] to [1.11] Facts."""

import itertools

from headsheard.canon import heads_of
from headsheard.errors import BadFacts
from headsheard.facts import Facts, facts_of, fits_facts
from helpers import NO_INTEGERS, NO_SEQUENCES, HeardCase, as_lists

WORDS_OF_FACTS = ("most", "lamps", "words", "hearing", "stretch")
# For each fact some right and some wrong values; the lamps are right whatever the most is.
RIGHT = ((1, 12), (0, 1), (1, 4), ("sums", "which"), (1, 12))
WRONG = ((0, 13), (-1, 13), (0, 5), ("sum", None), (0, 13))


class FactsTest(HeardCase):
    def test_defaults(self):
        facts = Facts()
        found = [facts.most, facts.lamps, facts.words, facts.hearing, facts.stretch]
        self.assertEqual(found, [None, 1, 1, "sums", 1])
        self.assert_same(facts.told, (0, 1, 1, "sums", 1))

    def test_attributes_and_told(self):
        for most, lamps, words, hearing, stretch in itertools.product((None, 1, 5, 12), (0, 1), (1, 4),
                                                                      ("sums", "which"), (1, 12)):
            facts = Facts(most, lamps, words, hearing, stretch)
            found = [facts.most, facts.lamps, facts.words, facts.hearing, facts.stretch]
            self.assertEqual(found, [most, lamps, words, hearing, stretch])
            self.assert_same(facts.told, (most or 0, lamps, words, hearing, stretch))
            by_name = Facts(stretch=stretch, hearing=hearing, words=words, lamps=lamps, most=most)
            self.assertEqual(by_name.told, facts.told)

    def test_ends_of_each_range(self):
        for most in range(1, 13):
            self.assertEqual(Facts(most, 1).most, most)
            self.assertEqual(Facts(most, most).lamps, most)
            self.assertEqual(Facts(most, 0).lamps, 0)
            self.assert_raises(BadFacts, ["lamps"], Facts, most, most + 1)
        for lamps in range(13):
            self.assertEqual(Facts(None, lamps).lamps, lamps)
        for words in range(1, 5):
            self.assertEqual(Facts(words=words).words, words)
        for stretch in range(1, 13):
            self.assertEqual(Facts(stretch=stretch).stretch, stretch)

    def test_wrong_facts(self):
        for most in (0, 13, -1, True, False, 1.0, "5", (5,)):
            self.assert_raises(BadFacts, ["most"], Facts, most)
        for what in ("lamps", "words", "stretch"):
            for thing in NO_INTEGERS + (-1, 13, 10 ** 30):
                self.assert_raises(BadFacts, [what], Facts, **{what: thing})
        for thing in (0, 5):
            self.assert_raises(BadFacts, ["words"], Facts, words=thing)
        self.assert_raises(BadFacts, ["stretch"], Facts, stretch=0)
        self.assert_raises(BadFacts, ["lamps"], Facts, 12, 13)
        for thing in NO_SEQUENCES + ("Sums", "sums ", "which?", ("sums",), ["which"], ()):
            self.assert_raises(BadFacts, ["hearing"], Facts, hearing=thing)

    def test_the_first_wrong_fact_is_told(self):
        for kinds in itertools.product((True, False), repeat=5):
            for pick in range(2):
                given = [(RIGHT if right else WRONG)[at][pick] for at, right in enumerate(kinds)]
                wrong = [what for what, right in zip(WORDS_OF_FACTS, kinds) if not right]
                if wrong:
                    self.assert_raises(BadFacts, wrong[:1], Facts, *given)
                else:
                    self.assertEqual(Facts(*given).told, tuple(given))

    def test_equality(self):
        told = [(None, 1, 1, "sums", 1), (5, 1, 1, "sums", 1), (5, 0, 1, "sums", 1), (5, 0, 2, "sums", 1),
                (5, 0, 2, "which", 1), (5, 0, 2, "which", 3)]
        for at, one in enumerate(told):
            for place, other in enumerate(told):
                self.assertIs(Facts(*one) == Facts(*other), at == place)
                self.assertIs(Facts(*one) != Facts(*other), at != place)
        self.assertIs(Facts() == Facts().told, False)
        self.assertIs(Facts() == 5, False)


class FactsOfTest(HeardCase):
    def test_the_equal_facts(self):
        for facts in (Facts(), Facts(12, 12), Facts(3, 0, 4, "which", 12), Facts(None, 12)):
            for told in (facts.told, list(facts.told)):
                self.assertEqual(facts_of(told), facts)
                self.assert_same(facts_of(told).told, facts.told)
        self.assertIsNone(facts_of((0, 1, 1, "sums", 1)).most)
        for most in range(1, 13):
            self.assertEqual(facts_of([most, 1, 1, "sums", 1]).most, most)

    def test_told(self):
        for thing in NO_SEQUENCES + ((), (0, 1, 1, "sums"), (0, 1, 1, "sums", 1, 1), "01111", [None] * 4):
            self.assert_raises(BadFacts, ["told"], facts_of, thing)

    def test_the_first_entry(self):
        for most in (None, False, True, -1, 13, 0.0, "0", (), "", 1.0):
            self.assert_raises(BadFacts, ["most"], facts_of, (most, 1, 1, "sums", 1))
            self.assert_raises(BadFacts, ["most"], facts_of, [most, True, 9, "sum", 99])

    def test_other_entries_as_facts(self):
        self.assert_raises(BadFacts, ["lamps"], facts_of, (2, 3, 9, "sums", 1))
        self.assert_raises(BadFacts, ["lamps"], facts_of, (0, True, 1, "sums", 1))
        self.assert_raises(BadFacts, ["words"], facts_of, (0, 3, 5, "sum", 1))
        self.assert_raises(BadFacts, ["hearing"], facts_of, (0, 3, 4, "sum", 0))
        self.assert_raises(BadFacts, ["stretch"], facts_of, (0, 3, 4, "which", 0))

    def test_nothing_passed_in_is_changed(self):
        for told in ([0, 1, 1, "sums", 1], [None, 1, 1, "sums", 1], [0, 1, 9, "sums", 1]):
            self.assert_unchanged(facts_of, told)


class FitsFactsTest(HeardCase):
    def test_what_fits(self):
        counts = (((0, 0), 2), ((0, 1), 1), ((1, 1), 1))
        for most in (None, 4, 5, 12):
            self.assertIsNone(fits_facts(Facts(most, 1, 2), counts))
        self.assertIsNone(fits_facts(Facts(None, 0), (((0, 0), 10 ** 30),)))
        self.assertIsNone(fits_facts(Facts(None, 0), ()))
        self.assertIsNone(fits_facts(Facts(3, 3), (((1, 0), 3),)))

    def test_each_word(self):
        counts = (((0, 0), 2), ((0, 1), 1), ((1, 1), 1))
        self.assertEqual(fits_facts(Facts(3, 1, 2), counts), "most")
        self.assertEqual(fits_facts(Facts(4, 2, 2), counts), "lamps")
        self.assertEqual(fits_facts(Facts(4, 0, 2), counts), "lamps")
        self.assertEqual(fits_facts(Facts(4, 1, 1), counts), "words")
        self.assertEqual(fits_facts(Facts(None, 1, 3), (((0, 3), 1), ((1, 0), 1))), "words")
        self.assertEqual(fits_facts(Facts(None, 1), ()), "lamps")

    def test_the_first_word_is_told(self):
        counts = (((0, 0), 2), ((0, 3), 3), ((1, 2), 2))
        for most, lamps, words in itertools.product((None, 6, 7), range(3), range(1, 5)):
            expected = None
            if words < 4:
                expected = "words"
            if lamps != 2:
                expected = "lamps"
            if most is not None and heads_of(counts) > most:
                expected = "most"
            self.assertEqual(fits_facts(Facts(most, lamps, words), counts), expected)

    def test_couples_may_be_lists(self):
        self.assertIsNone(fits_facts(Facts(3, 1), as_lists((((0, 0), 2), ((1, 0), 1)))))
