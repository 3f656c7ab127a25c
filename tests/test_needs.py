"""[15.1], [15.6] to [15.8] What sayings need."""

import itertools
import random
from fractions import Fraction
from math import gcd

from headsheard.canon import counts_of_starts
from headsheard.guesses import find_shares, seen_starts
from headsheard.needs import Needs, answer_question, couple_fault, find_needs, least_shares, saying_of
from headsheard.sayings import check_saying, holds
from headsheard.twins import alike_until, set_twins, share_twins
from headsheard.views import view_of
from helpers import NO_INTEGERS, NO_SEQUENCES, HeardCase
from plain_worlds import some_saying, true_of
from standings import joined_net, played

TRUE = ("most", ((-1, -1),), 0)


def all_numbers(words, most):
    return [numbers for numbers in itertools.product(range(most + 1), repeat=words) if 1 <= sum(numbers) <= most]


def counts_for(numbers):
    return tuple(((0, word), number) for word, number in enumerate(numbers) if number)


def is_true(saying, numbers):
    return true_of(saying, counts_for(numbers))


def shares_of(numbers):
    return tuple(Fraction(number, sum(numbers)) for number in numbers)


def places_of(numbers):
    return tuple(number > 0 for number in numbers)


def plain_need(saying, words, most):
    """The need by a search over every couple of numbers."""
    couples = list(itertools.combinations(all_numbers(words, most), 2))
    unlike = [(one, other) for one, other in couples if is_true(saying, one) != is_true(saying, other)]
    if not any(places_of(one) == places_of(other) for one, other in unlike):
        return "which"
    return "counts" if any(shares_of(one) == shares_of(other) for one, other in unlike) else "shares"


def plain_couple_fault(saying, words, most, need, couple):
    if need not in ("shares", "counts"):
        return "need"
    if type(couple) not in (list, tuple) or len(couple) != 2:
        return "couple"
    for numbers in couple:
        if type(numbers) not in (list, tuple) or len(numbers) != words \
                or any(type(number) is not int or number < 0 for number in numbers):
            return "couple"
    if any(not 1 <= sum(numbers) <= most for numbers in couple):
        return "total"
    same = places_of if need == "shares" else shares_of
    if same(couple[0]) != same(couple[1]):
        return "words" if need == "shares" else "shares"
    return "alike" if is_true(saying, couple[0]) == is_true(saying, couple[1]) else None


class FindNeedsTest(HeardCase):
    def ask(self, saying, words, most):
        found = find_needs(saying, words, most)
        self.assertIs(type(found), Needs)
        self.assert_same(found.need, plain_need(saying, words, most))
        if found.need == "which":
            self.assertIsNone(found.couple)
        else:
            self.assert_tuples(found.couple)
            self.assertIsNone(couple_fault(saying, words, most, found.need, found.couple))
            self.assertIsNone(plain_couple_fault(saying, words, most, found.need, found.couple))
        return found.need

    def test_against_a_search_over_every_couple(self):
        source = random.Random(1510)
        told = {"which": 0, "shares": 0, "counts": 0}
        for at in range(220):
            words, most = source.randrange(1, 5), source.randrange(1, 6)
            saying = some_saying(source, words, 3)
            if at % 3 == 0:
                saying = saying_of(*source.choice(((("mean",), (source.randrange(4), source.choice((1, 1, 5)))),
                                                   (("share", source.randrange(words)), (1, source.randrange(1, 4))),
                                                   (("most",), source.randrange(words)))), words)
            told[self.ask(saying, words, most)] += 1
        self.assertGreater(min(told.values()), 25)

    def test_twelve_houses_and_four_words(self):
        deep = ("and", tuple(("or", tuple(("not", ("same", ((1, 0), (2, 1), (3, 2), (5, 3)), at + other))
                                          for at in range(20, 24))) for other in range(4)))
        self.assertEqual(find_needs(deep, 4, 12).need, "which")
        seven = ("same", ((1, -1),), 7)
        found = find_needs(seven, 4, 12)
        self.assertEqual(found.need, "counts")
        self.assertIsNone(plain_couple_fault(seven, 4, 12, "counts", found.couple))
        shares = ("same", ((5, 0), (-7, 1)), 0)
        found = find_needs(shares, 4, 12)
        self.assertEqual(found.need, "shares")
        self.assertIsNone(plain_couple_fault(shares, 4, 12, "shares", found.couple))
        self.assertEqual(find_needs(shares, 4, 11).need, "which" if plain_which(shares) else "shares")

    def test_a_saying_that_needs_which_only_because_most_is_1(self):
        for saying in (("same", ((1, -1),), 1), ("most", ((1, 0),), 1), ("same", ((1, 0), (-1, 1)), 1)):
            self.assertEqual(self.ask(saying, 2, 1), "which")
            self.assertEqual(self.ask(saying, 2, 4), "counts")
        self.assertEqual(find_needs(("same", ((1, -1),), 1), 2, 2).need, "counts")
        self.assert_same(find_needs(("same", ((1, -1),), 1), 1, 2).couple, ((1,), (2,)))

    def test_each_need(self):
        self.assertEqual(self.ask(("most", ((1, 0),), 0), 2, 6), "which")
        self.assertEqual(self.ask(TRUE, 4, 4), "which")
        self.assertEqual(self.ask(("most", ((1, 0), (-1, 1)), 0), 2, 6), "shares")
        self.assertEqual(self.ask(("most", ((1, 0), (-1, 1)), 0), 2, 2), "which")
        self.assertEqual(self.ask(("most", ((1, 0), (-1, 1)), 1), 2, 6), "counts")

    def test_sayings_up_to_eight_deep(self):
        saying = ("same", ((1, 0), (-2, 1)), 0)
        for _ in range(7):
            saying = ("not", saying)
        self.assertEqual(self.ask(saying, 2, 5), "shares")

    def test_couples_have_twins(self):
        # What needs counts is told by nobody who hears sums without a lamp, what needs shares by nobody who hears sets.
        source = random.Random(1511)
        for _ in range(60):
            words = source.randrange(1, 4)
            saying = some_saying(source, words)
            found = find_needs(saying, words, 6)
            if found.need != "which":
                one, other = [counts_for(numbers) for numbers in found.couple]
                self.assertNotEqual(holds(saying, one), holds(saying, other))
                self.assertIsNone(alike_until(set_twins(one, other), "which"))
                if found.need == "counts":
                    self.assertIsNone(alike_until(share_twins(one, other), "sums"))

    def test_nothing_is_changed(self):
        self.assert_unchanged(find_needs, ["and", [["same", [[1, 0]], 1]]], 2, 3)
        self.assert_unchanged(couple_fault, ["same", [[1, 0]], 1], 1, 3, "counts", [[1], [2]])
        self.assert_unchanged(answer_question, ["share", 0], [[[0, 0], 1]])
        self.assert_unchanged(least_shares, [2, 4])


def plain_which(saying):
    """Whether all numbers of up to 11 houses with the same words agree."""
    truths = {}
    for numbers in all_numbers(4, 11):
        truths.setdefault(places_of(numbers), set()).add(is_true(saying, numbers))
    return all(len(lot) == 1 for lot in truths.values())


class TellingRightlyTest(HeardCase):
    """[15.1] Houses without a lamp."""

    def test_what_needs_shares_is_told_by_houses_that_hear_sums(self):
        source = random.Random(1515)
        told = {"which": 0, "shares": 0}
        for _ in range(40):
            houses, words = source.randrange(1, 6), source.randrange(1, 4)
            starts = [(0, source.randrange(words)) for _ in range(houses)]
            history = played(starts, [joined_net(source, houses) for _ in range(2 * houses + 1)])
            counts = counts_of_starts(starts)
            sayings = [some_saying(source, words) for _ in range(12)]
            sayings += [saying_of(("share", word), answer_question(("share", word), counts), words)
                        for word in range(words)]
            for saying in sayings:
                need = find_needs(saying, words, 12).need
                if need == "counts":
                    continue
                told[need] += 1
                for house in range(houses):
                    for level in range(max(1, 2 * houses - len(set(starts))), history.round + 1):
                        shares = find_shares(view_of(history, house, level))
                        self.assertEqual(holds(saying, shares), true_of(saying, counts))
        self.assertGreater(min(told.values()), 30)

    def test_what_needs_which_is_told_by_houses_that_hear_sets(self):
        source = random.Random(1516)
        told = 0
        for _ in range(40):
            houses, words = source.randrange(1, 7), source.randrange(1, 4)
            starts = [(0, source.randrange(words)) for _ in range(houses)]
            history = played(starts, [joined_net(source, houses) for _ in range(houses)], "which")
            for saying in [some_saying(source, words) for _ in range(12)]:
                if find_needs(saying, words, 12).need == "which":
                    told += 1
                    for house in range(houses):
                        for level in range(houses - 1, history.round + 1):
                            seen = tuple((start, 1) for start in seen_starts(view_of(history, house, level)))
                            self.assertEqual(holds(saying, seen), true_of(saying, counts_of_starts(starts)))
        self.assertGreater(told, 60)


class CoupleFaultTest(HeardCase):
    def test_against_a_second_reading(self):
        source = random.Random(1512)
        told = {}
        for _ in range(3000):
            words, most = source.randrange(1, 4), source.randrange(1, 7)
            saying = some_saying(source, words)
            need = source.choice(("shares", "counts"))
            one = [source.randrange(4) for _ in range(words)]
            factor = source.randrange(1, 3)
            other = source.choice(([number * factor for number in one], [source.randrange(4) for _ in range(words)],
                                   [number and source.randrange(1, 4) for number in one]))
            fault = couple_fault(saying, words, most, need, (one, tuple(other)))
            self.assert_same(fault, plain_couple_fault(saying, words, most, need, (one, other)))
            told[need, fault] = told.get((need, fault), 0) + 1
        for kind in (("shares", None), ("counts", None), ("shares", "words"), ("counts", "shares"), ("shares", "total"),
                     ("counts", "total"), ("shares", "alike"), ("counts", "alike")):
            self.assertGreater(told[kind], 20, told)

    def test_need(self):
        for need in ("which", "", "Shares", None, True, 1, ("shares",), ["counts"], b"counts", {}):
            self.assert_same(couple_fault(TRUE, 1, 3, need, None), "need")

    def test_couple(self):
        for need in ("shares", "counts"):
            for couple in (*NO_SEQUENCES, (), ((1,),), ((1,), (2,), (3,)), ((1,), 2), ((1,), None), ("a", "b")):
                self.assert_same(couple_fault(TRUE, 1, 3, need, couple), "couple")
            for number in (-1, *NO_INTEGERS):
                self.assert_same(couple_fault(TRUE, 2, 3, need, ((1, 0), (9, number))), "couple")
                self.assert_same(couple_fault(TRUE, 2, 3, need, ([number, 0], [1, 0])), "couple")
            self.assert_same(couple_fault(TRUE, 2, 3, need, ((1, 0), (1, 0, 0))), "couple")
            self.assert_same(couple_fault(TRUE, 2, 3, need, ((1,), (1, 0))), "couple")

    def test_the_first_in_the_told_order(self):
        for need, word in (("shares", "words"), ("counts", "shares")):
            self.assert_same(couple_fault(TRUE, 2, 3, need, ((0, 0), (1, 0))), "total")
            self.assert_same(couple_fault(TRUE, 2, 3, need, ((1, 0), (2, 2))), "total")
            self.assert_same(couple_fault(TRUE, 2, 3, need, ((1, 0), (1, 2))), word)
            self.assert_same(couple_fault(TRUE, 2, 3, need, ((1, 0), (2, 0))), "alike")
            self.assert_same(couple_fault(("same", ((1, -1),), 1), 2, 3, need, ((1, 0), (2, 0))), None)
        self.assert_same(couple_fault(("same", ((1, 0),), 1), 2, 3, "shares", ((1, 1), (2, 1))), None)
        self.assert_same(couple_fault(("same", ((1, 0),), 1), 2, 3, "counts", ((1, 1), (2, 1))), "shares")
        self.assert_same(couple_fault(TRUE, 2, 3, "counts", ((1, 1), (1, 1))), "alike")


class SharesTest(HeardCase):
    def test_least_shares(self):
        for numbers in all_numbers(3, 9):
            told = least_shares(numbers)
            self.assert_same(told, tuple(number // gcd(*numbers) for number in numbers))
            self.assertEqual(shares_of(told), shares_of(numbers))
        self.assert_same(least_shares([0, 40, 60]), (0, 2, 3))
        self.assert_same(least_shares((7,)), (1,))


class QuestionsTest(HeardCase):
    def plain_answer(self, question, counts):
        bearers = [word for (_, word), number in counts for _ in range(number)]
        if question[0] == "heads":
            return len(bearers)
        if question[0] == "most":
            return min(range(4), key=lambda word: (-bearers.count(word), word))
        top = sum(bearers) if question[0] == "mean" else bearers.count(question[1])
        worth = Fraction(top, len(bearers))
        return (worth.numerator, worth.denominator)

    def questions(self, words):
        return [("heads",), ("mean",), ("most",)] + [("share", word) for word in range(words)]

    def all_counts(self):
        source = random.Random(1513)
        for _ in range(150):
            yield counts_of_starts([(source.randrange(2), source.randrange(4)) for _ in range(source.randrange(1, 13))])

    def test_answers(self):
        for counts in self.all_counts():
            for question in self.questions(4):
                self.assert_same(answer_question(question, counts), self.plain_answer(question, counts))
                self.assert_same(answer_question(list(question), counts), self.plain_answer(question, counts))
        self.assert_same(answer_question(("share", 3), (((0, 0), 2),)), (0, 1))
        self.assert_same(answer_question(("most",), (((0, 1), 2), ((0, 2), 1), ((1, 2), 1))), 1)
        self.assert_same(answer_question(("mean",), (((0, 0), 2),)), (0, 1))
        self.assert_same(answer_question(("heads",), (((0, 0), 200),)), 200)

    def worths(self, question, words):
        if question[0] == "heads":
            return list(range(15)) + [99]
        if question[0] == "most":
            return list(range(words))
        return [(top, bottom) for top in range(37) for bottom in range(1, 13) if gcd(top, bottom) == 1]

    def test_a_saying_holds_exactly_for_the_counts_with_the_answer(self):
        source = random.Random(1514)
        for words in range(1, 5):
            lots = [counts for counts in self.all_counts() if all(start[1] < words for start, _ in counts)]
            lots += [counts_for(numbers) for numbers in all_numbers(words, 4)]
            for question in self.questions(words):
                worths = self.worths(question, words)
                answers = [self.plain_answer(question, counts) for counts in lots]
                for worth in source.sample(worths, min(25, len(worths))) + source.sample(answers, min(12, len(lots))):
                    if worth not in worths:
                        continue
                    saying = saying_of(question, worth, words)
                    self.assert_same(check_saying(words, saying), saying)
                    for counts, answer in zip(lots, answers):
                        self.assertEqual(holds(saying, counts), answer == worth, (question, worth, counts))

    def test_all_worths_make_sayings(self):
        for words in range(1, 5):
            for question in self.questions(words):
                for worth in self.worths(question, words):
                    check_saying(words, saying_of(question, worth, words))

    def test_worths_that_no_counts_answer(self):
        for words in (1, 2, 4):
            for question, worth in ((("heads",), 0), (("share", 0), (5, 4)), (("mean",), (36, 11)), (("mean",), (7, 2))):
                saying = saying_of(question, worth, words)
                self.assertFalse(any(holds(saying, counts_for(numbers)) for numbers in all_numbers(words, 6)))

    def test_what_these_sayings_need(self):
        for words in range(1, 4):
            for most in (1, 2, 4, 6):
                for worth in range(1, most + 1):
                    need = find_needs(saying_of(("heads",), worth, words), words, most).need
                    self.assertEqual(need, "counts" if most > 1 else "which")
                for question in self.questions(words)[1:]:
                    worths = self.worths(question, words)
                    for worth in worths[:: 1 + len(worths) // 12]:
                        self.assertNotEqual(find_needs(saying_of(question, worth, words), words, most).need, "counts")
        self.assertEqual(find_needs(saying_of(("heads",), 12, 4), 4, 12).need, "counts")


class NeedsTest(HeardCase):
    def test_it_keeps_what_it_is_given(self):
        needs = Needs("counts", ((1,), (2,)))
        self.assertEqual((needs.need, needs.couple), ("counts", ((1,), (2,))))
        self.assertTrue(needs == Needs("counts", ((1,), (2,))))
        for other in (Needs("shares", needs.couple), Needs("counts", ((1,), (3,))), ("counts", needs.couple), None):
            self.assertFalse(needs == other)
