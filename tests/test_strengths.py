"""[1.1] to [1.3] Amounts and strengths."""

import random
from fractions import Fraction
from math import gcd

from headsheard.errors import BadStrength
from headsheard.strengths import (
    NONE, check_strength, greatest, is_less, lowest, minus, over, plus, times, total)
from helpers import NO_INTEGERS, NO_SEQUENCES, HeardCase

SMALL = sorted({lowest(top, bottom) for top in range(7) for bottom in range(1, 6)})
GREAT = [(10 ** 29 + 1, 10 ** 29 - 1), (10 ** 30 - 1, 7), (1, 10 ** 30 - 1), (2 ** 90, 3 ** 60)]


def fraction(amount):
    return Fraction(amount[0], amount[1])


class ArithmeticTest(HeardCase):
    def assert_amount(self, amount, worth):
        self.assertEqual(amount, (worth.numerator, worth.denominator))
        self.assertIsInstance(amount, tuple)
        self.assertEqual([type(part) for part in amount], [int, int])

    def test_none_is_zero(self):
        self.assertEqual(NONE, (0, 1))

    def test_each_sum_difference_product_and_quotient_is_exact(self):
        for one in SMALL + GREAT:
            for other in SMALL + GREAT:
                first, second = fraction(one), fraction(other)
                self.assert_amount(plus(one, other), first + second)
                self.assert_amount(times(one, other), first * second)
                self.assertIs(is_less(one, other), first < second)
                if first >= second:
                    self.assert_amount(minus(one, other), first - second)
                if second:
                    self.assert_amount(over(one, other), first / second)

    def test_no_float_creeps_in(self):
        one = (10 ** 30 + 57, 10 ** 29 + 3)
        self.assertEqual(minus(plus(one, (1, 10 ** 30)), (1, 10 ** 30)), one)
        self.assertEqual(over(times(one, (3, 10 ** 30 + 1)), (3, 10 ** 30 + 1)), one)
        self.assertTrue(is_less((10 ** 40, 10 ** 40 + 1), (10 ** 40 + 1, 10 ** 40 + 2)))

    def test_lowest(self):
        for top in range(20):
            for bottom in range(1, 20):
                self.assert_amount(lowest(top, bottom), Fraction(top, bottom))
        self.assertEqual(lowest(0, 9), (0, 1))
        self.assertEqual(lowest(6 * 10 ** 40, 4 * 10 ** 40), (3, 2))

    def test_less_than_zero_is_refused(self):
        for one in SMALL:
            for other in SMALL:
                if fraction(one) < fraction(other):
                    self.assert_raises(BadStrength, ["sign"], minus, one, other)
        self.assertEqual(minus((5, 3), (5, 3)), (0, 1))
        self.assertEqual(minus(NONE, NONE), (0, 1))
        self.assert_raises(BadStrength, ["sign"], minus, NONE, (1, 10 ** 30))

    def test_over_zero_is_refused(self):
        for one in SMALL:
            self.assert_raises(BadStrength, ["sign"], over, one, NONE)
        self.assertEqual(over(NONE, (5, 7)), (0, 1))

    def test_is_less_looks_at_fractions_not_at_tuples(self):
        self.assertIs(is_less((3, 5), (2, 3)), True)
        self.assertIs(is_less((2, 3), (3, 5)), False)
        self.assertIs(is_less((2, 3), (2, 3)), False)
        self.assertIs(is_less((1, 3), (1, 2)), True)

    def test_greatest_and_total(self):
        source = random.Random(1)
        for many in range(8):
            for kind in (list, tuple):
                amounts = kind(source.choice(SMALL) for _ in range(many))
                self.assert_amount(greatest(amounts), max([fraction(one) for one in amounts], default=Fraction(0)))
                self.assert_amount(total(amounts), sum([fraction(one) for one in amounts], Fraction(0)))
        self.assertEqual(greatest([(1, 2), (3, 5), (2, 7)]), (3, 5))
        for nothing in ([], ()):
            self.assertEqual(greatest(nothing), (0, 1))
            self.assertEqual(total(nothing), (0, 1))
        self.assertEqual(greatest([NONE, NONE]), (0, 1))
        self.assert_same(greatest([[1, 2], [3, 5]]), (3, 5))
        self.assert_same(total([[1, 2], [3, 5]]), (11, 10))

    def test_nothing_passed_in_is_changed(self):
        amounts = [(3, 2), (1, 2)]
        for function in (greatest, total):
            self.assert_unchanged(function, amounts)


class CheckStrengthTest(HeardCase):
    def test_strengths_are_returned_as_tuples(self):
        for top in range(1, 12):
            for bottom in range(1, 12):
                if gcd(top, bottom) == 1:
                    self.assert_same(check_strength((top, bottom)), (top, bottom))
                    self.assert_same(check_strength([top, bottom]), (top, bottom))
                else:
                    self.assert_raises(BadStrength, ["lowest"], check_strength, (top, bottom))
        self.assert_same(check_strength([10 ** 30 - 1, 10 ** 30]), (10 ** 30 - 1, 10 ** 30))

    def test_shape(self):
        for thing in NO_SEQUENCES + ((), [], (1,), (1, 2, 3), [1, 2, 3], "12", {1: 1, 2: 2}):
            self.assert_raises(BadStrength, ["shape"], check_strength, thing)

    def test_whole(self):
        for part in NO_INTEGERS:
            for thing in ((part, 1), (1, part), [part, 1], [1, part], (part, part)):
                self.assert_raises(BadStrength, ["whole"], check_strength, thing)

    def test_sign(self):
        for thing in ((0, 1), (1, 0), (-1, 1), (1, -1), (-1, -1), [0, 0], (-10 ** 30, 3)):
            self.assert_raises(BadStrength, ["sign"], check_strength, thing)

    def test_lowest(self):
        for thing in ((2, 2), (4, 6), [10, 5], (3 * 10 ** 30, 3), (10 ** 15, 10 ** 14)):
            self.assert_raises(BadStrength, ["lowest"], check_strength, thing)

    def test_the_first_fault_is_told(self):
        self.assert_raises(BadStrength, ["shape"], check_strength, (True, 0, 4))
        self.assert_raises(BadStrength, ["whole"], check_strength, (0, True))
        self.assert_raises(BadStrength, ["whole"], check_strength, (False, -2))
        self.assert_raises(BadStrength, ["whole"], check_strength, (-2, 4.0))
        self.assert_raises(BadStrength, ["sign"], check_strength, (-2, 4))
        self.assert_raises(BadStrength, ["sign"], check_strength, (0, 6))
        self.assert_raises(BadStrength, ["sign"], check_strength, (6, 0))

    def test_nothing_passed_in_is_changed(self):
        for thing in ([3, 2], [2, 4], [0, 1], [True, 1]):
            self.assert_unchanged(check_strength, thing)
