"""Tellers: rules by which houses say sayings, and their lies."""

from headsheard.canon import MOST_WORDS, counts_of_starts, is_whole
from headsheard.datatext import data_text
from headsheard.errors import BadData, BadSaying, BadTeller
from headsheard.foils import find_foil, form_fault, view_in
from headsheard.plain import is_couple, is_sequence
from headsheard.sayings import check_saying, holds
from headsheard.sure import first_sure
from headsheard.views import earlier_view

MOST_ENTRIES = 1000
MOST_ROUNDS = 36


def _checked_table(words, table):
    """The saying of each text of a table; BadTeller with the first fault of its entries."""
    sayings = {}
    for at, entry in enumerate(table):
        if not is_couple(entry):
            raise BadTeller("entry", at)
        text, given = entry
        if not isinstance(text, str):
            raise BadTeller("text", at)
        try:
            saying = check_saying(words, given)
        except BadSaying:
            raise BadTeller("saying", at) from None
        if text in sayings:
            raise BadTeller("twice", at)
        sayings[text] = saying
    return sayings


def text_of(view):
    """The text of a view, or None if its levels are no data."""
    try:
        return data_text(view.levels)
    except BadData:
        return None


class Teller:
    """What a house says at each view."""

    def __init__(self, words, table):
        if not is_whole(words, 1, MOST_WORDS):
            raise BadTeller("words", 0)
        if not is_sequence(table, 0, MOST_ENTRIES):
            raise BadTeller("table", 0)
        sayings = _checked_table(words, table)
        self.words = words
        self.table = tuple([(text, sayings[text]) for text in sorted(sayings)])
        self._sayings = sayings

    def said(self, view):
        """What a house with this view says, or None."""
        text = text_of(view)
        return None if text is None else self._sayings.get(text)

    def __len__(self):
        return len(self.table)

    def __eq__(self, other):
        return isinstance(other, Teller) and self.words == other.words and self.table == other.table


class Lie:
    """What is said at a view though it is not sure there, and a foil that shows it: a result."""

    def __init__(self, at, saying, foil):
        self.at = at
        self.saying = saying
        self.foil = foil

    def __eq__(self, other):
        return (isinstance(other, Lie) and self.at == other.at and self.saying == other.saying
                and self.foil == other.foil)


def first_lie(teller, facts, views):
    """The first of these views at which the teller says what is not sure, as a Lie, or None."""
    sure = {}
    for at, view in enumerate(views):
        saying = teller.said(view)
        # What was found to be sure at a view is not asked again at an equal one.
        if saying is not None and view.levels not in sure:
            foil = find_foil(view, facts, saying)
            if foil is not None:
                return Lie(at, saying, foil)
            sure[view.levels] = True
    return None


def lie_fault(teller, facts, lie):
    """What keeps a Lie from showing that the teller lies, or None."""
    foil = lie.foil
    if not is_sequence(foil.nets, 0, MOST_ROUNDS) or form_fault(facts, foil, len(foil.nets)) is not None:
        return "foil"
    said = teller.said(view_in(foil, facts.hearing))
    if said is None or said != lie.saying:
        return "silent"
    return "true" if holds(said, counts_of_starts(foil.starts)) else None


def earliest_teller(facts, views, saying):
    """The teller that says the saying at just those of the views in which it is sure."""
    sayings = {}
    met = {}
    for view in views:
        if view.levels not in met:
            met[view.levels] = True
            text = text_of(view)
            if first_sure([view], facts, saying) is not None and text is not None:
                sayings[text] = saying
    return Teller(facts.words, [(text, sayings[text]) for text in sayings])


def run_views(run):
    """All views of a run so far, level by level."""
    views = [run.view_at(house) for house in range(run.houses)]
    return tuple([earlier_view(view, level) for level in range(views[0].round + 1) for view in views])
