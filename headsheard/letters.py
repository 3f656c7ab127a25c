"""Letters: what a house tells in a round, as plain data."""

from headsheard.canon import is_whole
from headsheard.datatext import data_text, read_data
from headsheard.errors import WrongLetter
from headsheard.facts import facts_of
from headsheard.plain import is_couple
from headsheard.views import View


def letter_of(view, facts):
    """The letter of a house with this view."""
    return (facts.told, view.levels)


def starts_fit(facts, starts):
    """Whether houses with these unlike starts, and perhaps others, may stand in a network with these facts."""
    lit = len([start for start in starts if start[0] == 1])
    if lit > facts.lamps or not all([is_whole(start[1], 0, facts.words - 1) for start in starts]):
        return False
    return facts.most is None or len(starts) - lit + facts.lamps <= facts.most


def check_letter(letter):
    """The view of a letter, at any depth of lists or tuples."""
    if not is_couple(letter):
        raise WrongLetter("shape")
    facts = facts_of(letter[0])
    view = View(letter[1])
    if not starts_fit(facts, view.levels[0]):
        raise WrongLetter("start")
    if facts.hearing == "which" and not _hears_ones(view):
        raise WrongLetter("strength")
    return view


def _hears_ones(view):
    """Whether each heard strength of a view is 1."""
    return all([strength == (1, 1) for level in view.levels[1:] for _, heard in level for _, strength in heard])


def letter_text(letter):
    """The text of a letter."""
    return data_text(letter)


def read_letter(text):
    """The letter of which this is the text."""
    letter = read_data(text)
    check_letter(letter)
    return letter
