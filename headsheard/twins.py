"""Twins: two sides whose houses look alike for ever, though their counts are unlike."""

from headsheard.canon import (
    check_counts, counts_of_starts, heads_of, is_whole, least_counts, lit_of, times_counts)
from headsheard.errors import BadTwins
from headsheard.histories import History
from headsheard.nets import MOST_HOUSES, complete_net
from headsheard.sayings import holds
from headsheard.strengths import NONE, plus
from headsheard.views import view_of


class Side:
    """Starts, and the net of every round: a result."""

    def __init__(self, starts, net):
        self.starts = starts
        self.net = net

    def __eq__(self, other):
        return isinstance(other, Side) and self.starts == other.starts and self.net == other.net


class Twins:
    """Two sides: a result."""

    def __init__(self, one, other):
        self.one = one
        self.other = other

    def __eq__(self, other):
        return isinstance(other, Twins) and self.one == other.one and self.other == other.other


def _check_sizes(counts, others):
    sizes = (heads_of(counts), heads_of(others))
    if min(sizes) == 0:
        raise BadTwins("empty")
    if max(sizes) > MOST_HOUSES:
        raise BadTwins("many")


def _even_side(counts, strength):
    """The side with these counts, any two of whose houses are linked with one strength."""
    starts = []
    for start, number in counts:
        starts.extend([start] * number)
    return Side(tuple(starts), complete_net(len(starts), strength, echo=strength))


def _divisor_of(counts):
    """The greatest common divisor of the counts."""
    return heads_of(counts) // heads_of(least_counts(counts))


def share_twins(counts, others):
    """Twins with counts of the same shares, alike for ever with hearing "sums"."""
    one, other = check_counts(counts), check_counts(others)
    _check_sizes(one, other)
    if lit_of(one) > 0 or lit_of(other) > 0:
        raise BadTwins("lamps")
    if least_counts(one) != least_counts(other):
        raise BadTwins("shares")
    return Twins(_even_side(one, (1, _divisor_of(one))), _even_side(other, (1, _divisor_of(other))))


def multiplied(counts, times):
    """Share twins with these counts and with so many times as many houses."""
    one = check_counts(counts)
    if not is_whole(times, 1):
        raise BadTwins("times")
    return share_twins(one, times_counts(one, times))


def set_twins(counts, others):
    """Twins with counts of the same starts and as many lamps, alike for ever with hearing "which"."""
    one, other = check_counts(counts), check_counts(others)
    _check_sizes(one, other)
    if lit_of(one) != lit_of(other):
        raise BadTwins("lamps")
    if [start for start, _ in one] != [start for start, _ in other]:
        raise BadTwins("words")
    return Twins(_even_side(one, (1, 1)), _even_side(other, (1, 1)))


class TwinPlay:
    """Both sides played together: in each round, equal standings have one number, whatever their side."""

    def __init__(self, twins, hearing):
        self.sides = (twins.one, twins.other)
        self.hearing = hearing
        self.marks = self._numbered([[tuple(start) for start in side.starts] for side in self.sides])

    def _numbered(self, told):
        number_of = {}
        for row in told:
            for standing in row:
                number_of.setdefault(standing, len(number_of))
        self.many = len(number_of)
        return [[number_of[standing] for standing in row] for row in told]

    def step(self):
        """Play the next round."""
        self.marks = self._numbered([[self._standing(side, marks, house) for house in range(len(marks))]
                                     for side, marks in zip(self.sides, self.marks)])

    def _standing(self, side, marks, house):
        sums = {}
        for other, strength in side.net.heard_by(house):
            mark = marks[other]
            sums[mark] = (1, 1) if self.hearing == "which" else plus(sums.get(mark, NONE), strength)
        return (marks[house], tuple([(mark, sums[mark]) for mark in sorted(sums)]))

    def unlike(self):
        """The least couple (side, house) whose standing no house of the other side has, or None."""
        for at, marks in enumerate(self.marks):
            for house, mark in enumerate(marks):
                if mark not in self.marks[1 - at]:
                    return (at, house)
        return None


def alike_until(twins, hearing):
    """The first round in which the sides are not alike, or None if they are alike for ever."""
    play = TwinPlay(twins, hearing)
    number, many = 0, 0
    # As long as something happens, standings split; if none does, none ever will.
    while play.many > many:
        if play.unlike() is not None:
            return number
        many = play.many
        play.step()
        number += 1
    return None


def twins_fault(twins, hearing, rounds):
    """The first (round, side, house) up to this round whose standing no house of the other side has, or None."""
    play = TwinPlay(twins, hearing)
    for number in range(rounds + 1):
        if number > 0:
            play.step()
        unlike = play.unlike()
        if unlike is not None:
            return (number,) + unlike
    return None


def twin_lie(teller, twins, hearing, rounds):
    """The first (round, side, house, saying) up to this round that does not hold on its side, or None."""
    sides = (twins.one, twins.other)
    histories = [History(side.starts, hearing) for side in sides]
    for number in range(rounds + 1):
        for at, side in enumerate(sides):
            if number > 0:
                histories[at].add(side.net)
            lie = _lie_on(teller, histories[at])
            if lie is not None:
                return (number, at) + lie
    return None


def _lie_on(teller, history):
    """The first couple (house, saying) in the last round of a history that does not hold, or None."""
    counts = counts_of_starts(history.starts)
    met = {}
    for house in range(history.houses):
        number = history.class_of(house, history.round)
        # Houses of one standing say the same.
        if number not in met:
            met[number] = True
            saying = teller.said(view_of(history, house))
            if saying is not None and not holds(saying, counts):
                return (house, saying)
    return None
