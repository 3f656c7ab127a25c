"""What sayings need: which words there are, their shares, or the counts themselves."""

from math import gcd

from headsheard.canon import compositions, heads_of, is_whole, words_of
from headsheard.plain import is_couple, is_sequence
from headsheard.sayings import HEADS, holds
from headsheard.strengths import lowest

# A saying that holds for all counts.
ALWAYS = ("same", ((1, HEADS), (-1, HEADS)), 0)


class Needs:
    """What a saying needs, and a couple of numbers that shows that less is not enough: a result."""

    def __init__(self, need, couple):
        self.need = need
        self.couple = couple

    def __eq__(self, other):
        return isinstance(other, Needs) and self.need == other.need and self.couple == other.couple


def least_shares(numbers):
    """The numbers divided by their greatest common divisor."""
    divisor = 0
    for number in numbers:
        divisor = gcd(divisor, number)
    return tuple([number // divisor for number in numbers])


def _places_of(numbers):
    """Which of the words are borne."""
    return tuple([number > 0 for number in numbers])


def _is_true(saying, numbers):
    return holds(saying, tuple([((0, word), number) for word, number in enumerate(numbers) if number > 0]))


def find_needs(saying, words, most):
    """What a saying needs among all numbers of up to so many houses."""
    truths = {numbers: _is_true(saying, numbers) for total in range(1, most + 1)
              for numbers in compositions(total, words)}
    by_words = _parted(truths, {numbers: _places_of(numbers) for numbers in truths})
    if by_words is None:
        return Needs("which", None)
    by_shares = _parted(truths, {numbers: least_shares(numbers) for numbers in truths})
    return Needs("shares", by_words) if by_shares is None else Needs("counts", by_shares)


def _parted(truths, lot_of):
    """A couple of numbers of one lot that do not agree, or None."""
    # To find a couple it is enough to compare each of a lot with the first one of it.
    first_of = {}
    for numbers in truths:
        first = first_of.setdefault(lot_of[numbers], numbers)
        if truths[first] != truths[numbers]:
            return (first, numbers)
    return None


def _are_numbers(thing, words):
    return is_sequence(thing, words, words) and all([is_whole(number, 0) for number in thing])


def couple_fault(saying, words, most, need, couple):
    """What keeps a couple from showing that a saying needs this, or None."""
    if need not in ("shares", "counts"):
        return "need"
    if not is_couple(couple) or not all([_are_numbers(thing, words) for thing in couple]):
        return "couple"
    one, other = couple
    if not all([is_whole(sum(numbers), 1, most) for numbers in couple]):
        return "total"
    if need == "shares" and _places_of(one) != _places_of(other):
        return "words"
    if need == "counts" and least_shares(one) != least_shares(other):
        return "shares"
    return "alike" if _is_true(saying, one) == _is_true(saying, other) else None


def answer_question(question, counts):
    """The answer that counts of at least one house give to a question."""
    kind = question[0]
    heads = heads_of(counts)
    if kind == "heads":
        return heads
    if kind == "mean":
        return lowest(sum([start[1] * number for start, number in counts]), heads)
    borne = words_of(counts, 1 + max([start[1] for start, _ in counts]))
    if kind == "most":
        return borne.index(max(borne))
    return lowest(borne[question[1]] if question[1] < len(borne) else 0, heads)


def saying_of(question, worth, words):
    """A saying that holds exactly for the counts whose answer is this worth."""
    kind = question[0]
    if kind == "heads":
        return ("same", ((1, HEADS),), worth)
    if kind == "share":
        return _parts_saying([(worth[1], question[1])], worth)
    if kind == "mean":
        return _parts_saying([(worth[1] * word, word) for word in range(1, words)], worth)
    # An earlier word must be borne by fewer houses, a later one by no more.
    parts = [("most", ((1, word), (-1, worth)), -1 if word < worth else 0) for word in range(words) if word != worth]
    return ("and", tuple(parts)) if parts else ALWAYS


def _parts_saying(terms, worth):
    """The saying that the sum of the terms is the upper part of the worth for each house."""
    all_terms = terms + ([(-worth[0], HEADS)] if worth[0] > 0 else [])
    return ("same", tuple(all_terms), 0) if all_terms else ALWAYS
