"""[7.2] to [7.4] Letters."""

import random

from headsheard.canon import compositions, starts_of
from headsheard.datatext import data_text, read_data
from headsheard.errors import BadFacts, BadText, BadView, HeadError, WrongLetter
from headsheard.facts import Facts, fits_facts
from headsheard.letters import check_letter, letter_of, letter_text, read_letter
from headsheard.views import View
from helpers import NO_SEQUENCES, HeardCase, as_lists
from made_views import ONE, chain, some_views

TOLD = (0, 1, 1, "sums", 1)


def some_letters(seed, many):
    """Right letters with their views and facts."""
    for view, history, _, _ in some_views(seed, many):
        lamps = sum(lit for lit, _ in history.starts)
        for most in (None, history.houses, 12):
            facts = Facts(most, lamps, 4, history.hearing, len(view.levels[0]))
            yield letter_of(view, facts), view, facts


class LetterTest(HeardCase):
    def test_letters(self):
        for letter, view, facts in some_letters(100, 60):
            self.assert_same(letter, (facts.told, view.levels))
            for given in (letter, as_lists(letter), list(letter)):
                taken = check_letter(given)
                self.assertEqual(taken, view)
                self.assertIs(type(taken), View)
                self.assert_tuples(taken.levels)
            self.assert_unchanged(check_letter, as_lists(letter))

    def test_a_letter_with_only_lists(self):
        letter = [[0, 1, 2, "which", 3], [[[0, 1], [1, 0]], [[0, [[1, [1, 1]]]]]]]
        self.assert_same(check_letter(letter).levels, (((0, 1), (1, 0)), ((0, ((1, ONE),)),)))

    def test_shape(self):
        for thing in NO_SEQUENCES + ((), (TOLD,), (TOLD, chain(0), ()), [None] * 3):
            self.assert_raises(WrongLetter, ("shape",), check_letter, thing)

    def test_facts(self):
        for told, what in ((None, "told"), ("sums", "told"), ((), "told"), (TOLD + (1,), "told"),
                           ((None,) + TOLD[1:], "most"), ((False,) + TOLD[1:], "most"), ((13,) + TOLD[1:], "most"),
                           ((0, 13, 1, "sums", 1), "lamps"), ((0, 1, 5, "sums", 1), "words"),
                           ((0, 1, 1, "all", 1), "hearing"), ((0, 1, 1, ["sums"], 1), "hearing"),
                           ((0, 1, 1, "sums", True), "stretch"), ((1, 2, 0, "", 0), "lamps")):
            for levels in (chain(0), None):
                self.assert_raises(BadFacts, (what,), check_letter, (told, levels))

    def test_views(self):
        for levels, fault in ((None, ("levels", 0, 0)), (chain(37), ("levels", 0, 0)), ([[]], ("level", 0, 0)),
                              ([[(0, 9)]], ("node", 0, 0)), ([[(1, 0), (0, 0)]], ("order", 0, 1)),
                              ([[(0, 3)], [(0, ((0, (2, 2)),))]], ("strength", 1, 0))):
            self.assert_raises(BadView, fault, check_letter, [TOLD, levels])

    def test_which_letters_hear_only_ones(self):
        told = (0, 1, 1, "which", 1)
        for strength in ((2, 1), (1, 2)):
            levels = chain(1) + [[(0, ((0, strength),))]]
            self.assert_raises(WrongLetter, ("strength",), check_letter, (told, levels))
            self.assertEqual(check_letter((TOLD, levels)), View(levels))
            self.assert_raises(WrongLetter, ("start",), check_letter, (told, [[(0, 3)]] + levels[1:]))
        levels = [[(0, 0), (1, 0)], [(0, ((0, ONE), (1, (3, 2))))], [(0, ((0, ONE),))]]
        self.assert_raises(WrongLetter, ("strength",), check_letter, (told, levels))
        levels[1] = [(0, ((0, ONE), (1, ONE)))]
        self.assertEqual(check_letter((told, levels)), View(levels))


class FittingStartsTest(HeardCase):
    def some_counts_fit(self, facts, starts):
        """Whether some counts of up to 8 houses hold each of the starts and fit the facts."""
        all_starts = starts_of(4)
        for heads in range(len(starts), (facts.most or 8) + 1):
            for extra in compositions(heads - len(starts), len(all_starts)):
                counts = [(start, number + (start in starts)) for start, number in zip(all_starts, extra)]
                if fits_facts(facts, tuple(entry for entry in counts if entry[1])) is None:
                    return True
        return False

    def test_starts_fit_exactly_if_some_counts_do(self):
        source = random.Random(101)
        told = {True: 0, False: 0}
        for _ in range(150):
            starts = tuple(sorted(source.sample(starts_of(4), source.randrange(1, 5))))
            most = source.choice((None, 1, 2, 3, 4, 5))
            lamps = source.randrange(min(most or 3, 3) + 1)
            facts = Facts(most, lamps, source.choice((2, 3, 4, 4)))
            levels = [starts, [(0, tuple((node, ONE) for node in range(1, len(starts))))]]
            fits = self.some_counts_fit(facts, starts)
            told[fits] += 1
            if fits:
                self.assertEqual(check_letter((facts.told, levels)), View(levels))
            else:
                self.assert_raises(WrongLetter, ("start",), check_letter, (facts.told, levels))
        self.assertTrue(told[True] > 30 and told[False] > 30)

    def test_just_so_and_just_not_so(self):
        def ask(told, starts):
            return check_letter((told, [starts, [(0, tuple((node, ONE) for node in range(1, len(starts))))]]))
        cases = (
            ((0, 1, 2, "sums", 1), ((0, 0), (0, 1), (1, 0)), ((0, 0), (0, 1), (1, 0), (1, 1))),
            ((0, 1, 2, "sums", 1), ((0, 1),), ((0, 2),)),
            ((0, 0, 1, "sums", 1), ((0, 0),), ((1, 0),)),
            ((3, 1, 4, "sums", 1), ((0, 0), (0, 1)), ((0, 0), (0, 1), (0, 2))),
            ((3, 2, 4, "sums", 1), ((0, 0), (1, 0)), ((0, 0), (0, 1), (1, 0))),
            ((2, 2, 4, "sums", 1), ((1, 0), (1, 3)), ((0, 3), (1, 3))),
            ((2, 2, 4, "sums", 1), ((1, 0),), ((0, 3),)),
            ((1, 0, 1, "sums", 1), ((0, 0),), ((1, 0),)),
        )
        for told, fits, does_not in cases:
            ask(told, fits)
            self.assert_raises(WrongLetter, ("start",), ask, told, does_not)


class TextTest(HeardCase):
    def test_texts(self):
        for letter, _, _ in some_letters(102, 40):
            self.assertEqual(letter_text(letter), data_text(letter))
            self.assertEqual(letter_text(as_lists(letter)), letter_text(letter))
            self.assert_same(read_letter(letter_text(letter)), letter)

    def test_the_text_of_the_example(self):
        letter = ((0, 1, 1, "sums", 1), (((1, 0),),))
        self.assertEqual(letter_text(letter), "((0 1 1 sums 1) (((1 0))))")
        self.assert_same(read_letter("((0 1 1 sums 1) (((1 0))))"), letter)

    def test_texts_cut_short_lengthened_and_changed(self):
        source = random.Random(103)
        kinds = set()
        for letter, _, _ in some_letters(104, 8):
            text = letter_text(letter)
            others = [text[:at] for at in range(len(text))] + [text + more for more in (" ", ")", "(", "0", " 0", "a")]
            for at in range(len(text)):
                others.append(text[:at] + source.choice("0123456789()- asum") + text[at + 1:])
            for other in others:
                kinds.add(self.ask(other))
        self.assertTrue({"BadText", "BadFacts", "BadView", "WrongLetter", "right"} <= kinds)

    def ask(self, text):
        """What reading a text tells; it is what reading the data and checking the letter tell."""
        try:
            data = read_data(text)
        except BadText as error:
            self.assert_raises(BadText, (error.place,), read_letter, text)
            return "BadText"
        try:
            check_letter(data)
        except HeadError as error:
            self.assert_raises(type(error), tuple(vars(error).values()), read_letter, text)
            return type(error).__name__
        self.assert_same(read_letter(text), data)
        return "right"

    def test_wrong_texts(self):
        self.assert_raises(BadText, (0,), read_letter, None)
        self.assert_raises(BadText, (0,), read_letter, "")
        self.assert_raises(WrongLetter, ("shape",), read_letter, "(1 2 3)")
        self.assert_raises(BadFacts, ("told",), read_letter, "(1 2)")
        self.assert_raises(BadView, ("levels", 0, 0), read_letter, "((0 1 1 sums 1) ())")
        self.assert_raises(WrongLetter, ("start",), read_letter, "((0 1 1 sums 1) (((1 1))))")
