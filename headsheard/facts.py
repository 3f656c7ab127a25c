"""Facts: what all houses are told before round 1."""

from headsheard.canon import MOST_WORDS, heads_of, is_whole, lit_of
from headsheard.errors import BadFacts
from headsheard.plain import is_sequence

MOST_TOLD = 12
HEARINGS = ("sums", "which")


def facts_of(told):
    """The facts with this `told`."""
    if not is_sequence(told, 5, 5):
        raise BadFacts("told")
    most, lamps, words, hearing, stretch = told
    # None is told as 0; it does not stand for itself.
    if most is None:
        raise BadFacts("most")
    return Facts(None if is_whole(most, 0, 0) else most, lamps, words, hearing, stretch)


def fits_facts(facts, counts):
    """None if houses of these counts may stand in a network with these facts, else a word."""
    if facts.most is not None and heads_of(counts) > facts.most:
        return "most"
    if lit_of(counts) != facts.lamps:
        return "lamps"
    if any([start[1] >= facts.words for start, _ in counts]):
        return "words"
    return None


def _wrong_fact(most, lamps, words, hearing, stretch):
    """The name of the first fact that is wrong, or None."""
    if most is not None and not is_whole(most, 1, MOST_TOLD):
        return "most"
    if not is_whole(lamps, 0, MOST_TOLD if most is None else most):
        return "lamps"
    if not is_whole(words, 1, MOST_WORDS):
        return "words"
    if hearing not in HEARINGS:
        return "hearing"
    if not is_whole(stretch, 1, MOST_TOLD):
        return "stretch"
    return None


class Facts:
    """What all houses are told; BadFacts for the first fact that is wrong."""

    def __init__(self, most=None, lamps=1, words=1, hearing="sums", stretch=1):
        wrong = _wrong_fact(most, lamps, words, hearing, stretch)
        if wrong is not None:
            raise BadFacts(wrong)
        self.most = most
        self.lamps = lamps
        self.words = words
        self.hearing = hearing
        self.stretch = stretch
        self.told = (most or 0, lamps, words, hearing, stretch)

    def __eq__(self, other):
        return isinstance(other, Facts) and self.told == other.told
