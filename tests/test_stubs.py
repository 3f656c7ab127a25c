"""[13.2] Stubs and the links between them."""

import random
from fractions import Fraction

from headsheard.errors import BadStubs
from headsheard.stubs import echo_links, stub_links
from helpers import NO_SEQUENCES, HeardCase

ONE = (1, 1)
NO_AMOUNTS = (
    [1, 1], (2, 2), (0, 2), (-1, 1), (1, 0), (1, -1), (0, 0), (True, 1), (1, True), (False, 1), (1,), (1, 1, 1), (),
    (1.0, 1), ("1", 1), (None, 1), ((1,), 1), None, True, 0, 1, "ab", {1: 2, 3: 4})


def as_amount(worth):
    return (worth.numerator, worth.denominator)


def some_stubs(source, many):
    return [source.choice((Fraction(0), Fraction(source.randrange(0, 6), source.randrange(1, 6)))) for _ in range(many)]


class StubLinksTest(HeardCase):
    def test_sums(self):
        source = random.Random(1301)
        for _ in range(200):
            ones, others = some_stubs(source, source.randrange(6)), some_stubs(source, source.randrange(6))
            lack = sum(ones) - sum(others)
            (others if lack > 0 else ones).append(abs(lack))
            told = stub_links([as_amount(one) for one in ones], tuple(as_amount(one) for one in others))
            total = sum(ones)
            asked = tuple((i, j, as_amount(one * other / total)) for i, one in enumerate(ones) if one
                          for j, other in enumerate(others) if other)
            self.assert_same(told, asked)
            for i, one in enumerate(ones):
                self.assertEqual(sum(Fraction(*strength) for at, _, strength in told if at == i), one)
            for j, other in enumerate(others):
                self.assertEqual(sum(Fraction(*strength) for _, at, strength in told if at == j), other)

    def test_example(self):
        self.assert_same(stub_links([(3, 2), (3, 2)], [(3, 1)]), ((0, 0, (3, 2)), (1, 0, (3, 2))))
        self.assert_same(stub_links(((1, 1), (0, 1), (2, 1)), ((1, 2), (5, 2))),
                         ((0, 0, (1, 6)), (0, 1, (5, 6)), (2, 0, (1, 3)), (2, 1, (5, 3))))

    def test_a_total_of_zero(self):
        for ones in ((), [(0, 1)], ((0, 1), (0, 1))):
            for others in ((), [(0, 1)]):
                self.assert_same(stub_links(ones, others), ())

    def test_unlike_totals(self):
        for ones, others in (((ONE,), ()), ((), (ONE,)), ((ONE,), ((1, 2),)), ((ONE, ONE), (ONE,)), ((ONE,), ((0, 1),))):
            self.assert_raises(BadStubs, ("totals",), stub_links, ones, others)

    def test_no_stubs(self):
        for wrong in NO_SEQUENCES:
            self.assert_raises(BadStubs, ("stubs",), stub_links, wrong, ())
            self.assert_raises(BadStubs, ("stubs",), stub_links, (ONE,), wrong)
        for wrong in NO_AMOUNTS:
            self.assert_raises(BadStubs, ("stubs",), stub_links, (ONE, wrong), (ONE,))
            self.assert_raises(BadStubs, ("stubs",), stub_links, (ONE,), [ONE, wrong])

    def test_nothing_is_changed(self):
        self.assert_unchanged(stub_links, [(1, 2), (1, 2)], [ONE])
        self.assert_unchanged(stub_links, [(1, 2), [1, 2]], [ONE])
        self.assert_unchanged(echo_links, [(1, 2), ONE])


class EchoLinksTest(HeardCase):
    def test_sums(self):
        source = random.Random(1302)
        for _ in range(200):
            stubs = some_stubs(source, source.randrange(7))
            told = echo_links([as_amount(stub) for stub in stubs])
            total = sum(stubs)
            asked = tuple((i, j, as_amount(one * other / total)) for i, one in enumerate(stubs) if one
                          for j, other in enumerate(stubs) if j >= i and other)
            self.assert_same(told, asked)
            for place, stub in enumerate(stubs):
                self.assertEqual(sum(Fraction(*strength) for i, j, strength in told if place in (i, j)), stub)

    def test_few(self):
        self.assert_same(echo_links([(3, 7)]), ((0, 0, (3, 7)),))
        self.assert_same(echo_links((ONE, (0, 1), ONE)), ((0, 0, (1, 2)), (0, 2, (1, 2)), (2, 2, (1, 2))))

    def test_a_total_of_zero(self):
        for stubs in ((), [], ((0, 1),), [(0, 1), (0, 1)]):
            self.assert_same(echo_links(stubs), ())

    def test_no_stubs(self):
        for wrong in NO_SEQUENCES:
            self.assert_raises(BadStubs, ("stubs",), echo_links, wrong)
        for wrong in NO_AMOUNTS:
            self.assert_raises(BadStubs, ("stubs",), echo_links, (ONE, wrong))
