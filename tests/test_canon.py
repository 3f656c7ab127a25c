"""[1.4] to [1.8] Whole numbers, compositions, starts and counts."""

import itertools
import random
from math import comb, gcd

from headsheard.canon import (
    check_counts, compositions, counts_of_starts, heads_of, is_whole, joined_counts, least_counts, less_counts,
    lit_of, starts_of, times_counts, words_of)
from headsheard.errors import BadCounts
from helpers import NO_INTEGERS, NO_SEQUENCES, HeardCase, Other, as_lists

STARTS = [(lit, word) for lit in range(2) for word in range(4)]


def some_counts(source, starts=STARTS, most=9):
    """Counts of some of the starts."""
    kept = sorted(source.sample(starts, source.randrange(len(starts) + 1)))
    return tuple((start, source.randrange(1, most + 1)) for start in kept)


class WholeTest(HeardCase):
    def test_integers(self):
        for thing in (0, 1, -1, 12, -10 ** 50, 10 ** 500):
            self.assertIs(is_whole(thing), True)

    def test_what_is_none(self):
        for thing in NO_INTEGERS:
            self.assertIs(is_whole(thing), False)
            self.assertIs(is_whole(thing, 0, 1), False)
            self.assertIs(is_whole(thing, None, None), False)

    def test_bounds(self):
        for thing in range(-4, 5):
            for low in [None] + list(range(-3, 4)):
                for high in [None] + list(range(-3, 4)):
                    right = (low is None or thing >= low) and (high is None or thing <= high)
                    self.assertIs(is_whole(thing, low, high), right)
                    self.assertIs(is_whole(thing, high=high, low=low), right)

    def test_one_bound_alone(self):
        self.assertIs(is_whole(5, 5), True)
        self.assertIs(is_whole(4, 5), False)
        self.assertIs(is_whole(5, high=5), True)
        self.assertIs(is_whole(6, high=5), False)
        self.assertIs(is_whole(-1, 0), False)
        self.assertIs(is_whole(1, high=0), False)


class CompositionsTest(HeardCase):
    def test_all_of_them_ascending(self):
        for total in range(6):
            for places in range(6):
                rows = itertools.product(range(total + 1), repeat=places)
                expected = tuple(row for row in rows if sum(row) == total)
                self.assert_same(compositions(total, places), expected)

    def test_no_places(self):
        self.assert_same(compositions(0, 0), ((),))
        for total in range(1, 13):
            self.assert_same(compositions(total, 0), ())

    def test_the_greatest_that_is_asked(self):
        rows = compositions(12, 8)
        self.assertEqual(len(rows), comb(19, 7))
        self.assertTrue(all(one < other for one, other in zip(rows, rows[1:])))
        self.assertTrue(all(len(row) == 8 and sum(row) == 12 and min(row) >= 0 for row in rows))

    def test_one_place_and_the_total_zero(self):
        self.assert_same(compositions(12, 1), ((12,),))
        self.assert_same(compositions(0, 3), ((0, 0, 0),))

    def test_a_total_below_zero_has_none(self):
        for places in range(3):
            self.assert_same(compositions(-1, places), ())


class CheckCountsTest(HeardCase):
    def test_counts_in_any_order(self):
        source = random.Random(2)
        for _ in range(100):
            counts = some_counts(source, most=10 ** 6)
            entries = list(counts)
            source.shuffle(entries)
            for given in (entries, tuple(entries), as_lists(entries)):
                self.assert_same(check_counts(given), counts)

    def test_no_house_and_any_size(self):
        self.assert_same(check_counts([]), ())
        self.assert_same(check_counts(()), ())
        self.assert_same(check_counts([((1, 3), 10 ** 40)]), (((1, 3), 10 ** 40),))
        self.assert_same(check_counts([(start, 13) for start in STARTS]), tuple((start, 13) for start in STARTS))

    def test_shape(self):
        for thing in NO_SEQUENCES:
            self.assert_raises(BadCounts, ["shape"], check_counts, thing)
            self.assert_raises(BadCounts, ["shape"], check_counts, [thing])
        for entry in ((), ((0, 0),), ((0, 0), 1, 1), []):
            self.assert_raises(BadCounts, ["shape"], check_counts, [((1, 0), 1), entry])

    def test_start(self):
        wrong = [(2, 0), (-1, 0), (0, 4), (0, -1), (True, 0), (0, False), (0,), (), (0, 0, 0), (1.0, 0), (0, "0"),
                 [2, 0], ((0, 0), 0)] + list(NO_SEQUENCES)
        for start in wrong:
            self.assert_raises(BadCounts, ["start"], check_counts, [(start, 1)])
            self.assert_raises(BadCounts, ["start"], check_counts, (((0, 0), 2), [start, 1]))

    def test_count(self):
        for count in NO_INTEGERS + (0, -1, -10 ** 30):
            self.assert_raises(BadCounts, ["count"], check_counts, [((0, 0), count)])

    def test_twice(self):
        self.assert_raises(BadCounts, ["twice"], check_counts, [((0, 0), 1), ((1, 0), 1), ((0, 0), 1)])
        self.assert_raises(BadCounts, ["twice"], check_counts, [((0, 1), 1), ([0, 1], 2)])

    def test_the_first_fault_is_told(self):
        self.assert_raises(BadCounts, ["start"], check_counts, [((2, 0), 0)])
        self.assert_raises(BadCounts, ["shape"], check_counts, [((2, 0), 0, 0)])
        self.assert_raises(BadCounts, ["count"], check_counts, [((0, 0), 1), ((0, 0), 0)])
        self.assert_raises(BadCounts, ["count"], check_counts, [((0, 0), 0), 7])
        self.assert_raises(BadCounts, ["twice"], check_counts, [((0, 0), 1), ((0, 0), 1), ((2, 0), 1)])
        self.assert_raises(BadCounts, ["start"], check_counts, [(5, True), None])

    def test_nothing_passed_in_is_changed(self):
        for given in ([[[1, 0], 2], [[0, 0], 1]], [[[1, 0], 0]], [[[1, 0], 1], [[1, 0], 1]], [3]):
            self.assert_unchanged(check_counts, given)


class CountsTest(HeardCase):
    def setUp(self):
        self.source = random.Random(3)
        self.some = [some_counts(self.source) for _ in range(40)] + [()]

    def test_counts_of_starts(self):
        for many in range(12):
            starts = [self.source.choice(STARTS) for _ in range(many)]
            expected = tuple((start, starts.count(start)) for start in STARTS if start in starts)
            for given in (starts, tuple(starts), as_lists(starts)):
                self.assert_same(counts_of_starts(given), expected)
        self.assert_same(counts_of_starts([(1, 0), (0, 3), (1, 0)]), (((0, 3), 1), ((1, 0), 2)))

    def test_heads_lit_and_words(self):
        for counts in self.some:
            starts = [start for start, count in counts for _ in range(count)]
            self.assertEqual(heads_of(counts), len(starts))
            self.assertEqual(lit_of(counts), sum(lit for lit, _ in starts))
            for words in (4, 5):
                expected = tuple(sum(1 for _, borne in starts if borne == word) for word in range(words))
                self.assert_same(words_of(counts, words), expected)
        self.assertEqual([heads_of(()), lit_of(())], [0, 0])
        self.assert_same(words_of((), 2), (0, 0))
        self.assert_same(words_of((((0, 1), 2), ((1, 0), 1), ((1, 1), 4)), 2), (1, 6))
        self.assertEqual(heads_of((((0, 0), 10 ** 40), ((1, 0), 1))), 10 ** 40 + 1)
        self.assertEqual(lit_of((((0, 0), 5), ((1, 0), 10 ** 40), ((1, 3), 2))), 10 ** 40 + 2)

    def test_joined_and_less(self):
        for one in self.some:
            for other in self.some[::3]:
                both = dict(one)
                for start, count in other:
                    both[start] = both.get(start, 0) + count
                expected = tuple(sorted(both.items()))
                self.assert_same(joined_counts(one, other), expected)
                self.assert_same(less_counts(expected, other), one)
                self.assert_same(less_counts(expected, one), other)

    def test_what_becomes_zero_is_left_out(self):
        counts = (((0, 0), 2), ((1, 0), 1))
        self.assert_same(less_counts(counts, counts), ())
        self.assert_same(less_counts(counts, (((1, 0), 1),)), (((0, 0), 2),))
        self.assert_same(less_counts((), ()), ())

    def test_more_than_there_are_are_refused(self):
        counts = (((0, 0), 2), ((1, 0), 1))
        for other in ((((0, 0), 3),), (((1, 0), 2),), (((0, 1), 1),), (((0, 0), 1), ((1, 3), 1))):
            self.assert_raises(BadCounts, ["count"], less_counts, counts, other)
        self.assert_raises(BadCounts, ["count"], less_counts, (), (((0, 0), 1),))

    def test_times_and_least(self):
        for counts in self.some:
            divisor = gcd(*[count for _, count in counts])
            shares = tuple((start, count // divisor) for start, count in counts)
            self.assert_same(least_counts(counts), shares)
            for times in (1, 2, 7, 10 ** 30):
                multiplied = times_counts(counts, times)
                self.assert_same(multiplied, tuple((start, count * times) for start, count in counts))
                self.assert_same(least_counts(multiplied), least_counts(counts))
        self.assert_same(least_counts(()), ())
        self.assert_same(times_counts((), 5), ())
        self.assert_same(least_counts((((0, 0), 6), ((0, 1), 10), ((1, 0), 15))),
                         (((0, 0), 6), ((0, 1), 10), ((1, 0), 15)))
        self.assert_same(least_counts((((0, 0), 12),)), (((0, 0), 1),))

    def test_starts_of(self):
        self.assert_same(starts_of(1), ((0, 0), (1, 0)))
        self.assert_same(starts_of(2), ((0, 0), (0, 1), (1, 0), (1, 1)))
        for words in range(1, 5):
            self.assert_same(starts_of(words), tuple(sorted(start for start in STARTS if start[1] < words)))

    def test_couples_may_be_lists(self):
        counts = [[[0, 0], 4], [[1, 1], 2]]
        tuples = (((0, 0), 4), ((1, 1), 2))
        self.assertEqual([heads_of(counts), lit_of(counts)], [6, 2])
        self.assert_same(words_of(counts, 2), (4, 2))
        self.assert_same(joined_counts(counts, counts), times_counts(tuples, 2))
        self.assert_same(less_counts(counts, [[[0, 0], 1]]), (((0, 0), 3), ((1, 1), 2)))
        self.assert_same(times_counts(counts, 1), tuples)
        self.assert_same(least_counts(counts), (((0, 0), 2), ((1, 1), 1)))

    def test_nothing_passed_in_is_changed(self):
        counts, other = [[[0, 0], 4], [[1, 1], 2]], [[[0, 0], 1]]
        for function in (heads_of, lit_of, least_counts):
            self.assert_unchanged(function, counts)
        for function in (joined_counts, less_counts):
            self.assert_unchanged(function, counts, other)
            self.assert_unchanged(function, other, counts)
        self.assert_unchanged(words_of, counts, 2)
        self.assert_unchanged(times_counts, counts, 3)
        self.assert_unchanged(counts_of_starts, [[0, 0], [1, 1]])


class OtherThingsTest(HeardCase):
    def test_a_thing_of_no_known_kind(self):
        self.assertIs(is_whole(Other()), False)
        self.assert_raises(BadCounts, ["start"], check_counts, [(Other(), Other())])
