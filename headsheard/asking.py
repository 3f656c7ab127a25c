"""What a house answers to the deeds that ask."""

from headsheard.errors import NeedsLamp
from headsheard.foils import find_foil
from headsheard.guesses import find_shares, guess_counts
from headsheard.needs import answer_question
from headsheard.sayings import check_saying
from headsheard.shortpapers import find_short
from headsheard.sure import first_sure
from headsheard.views import earlier_view
from headsheard.worlds import counts_of


def asked(view, facts, deed):
    """What a deed that asks the house with this view tells."""
    kind = deed[0]
    if kind == "guess":
        return guess_of(view, facts)
    if kind == "shares":
        return find_shares(view)
    if kind == "paper":
        if facts.lamps != 1:
            raise NeedsLamp()
        return find_short(view)
    # Without a most, whatever asks for worlds raises NeedsMost.
    if kind == "answer":
        return _sure_answer(view, facts, deed[2])
    saying = check_saying(facts.words, deed[2])
    return find_foil(view, facts, saying) if kind == "foil" else _told_of(view, facts, saying)


def guess_of(view, facts):
    """The counts that a house with this view guesses, or None."""
    return None if facts.lamps == 0 else guess_counts(view, facts.lamps)


def _told_of(view, facts, saying):
    """Whether a saying is sure, or its opposite, and since when."""
    for word, given in (("yes", saying), ("no", ("not", saying))):
        # What is sure stays sure, so the earlier views need only be looked at if it is sure now.
        if first_sure([view], facts, given) is not None:
            views = [earlier_view(view, level) for level in range(view.round + 1)]
            return (word, first_sure(views, facts, given))
    return ("open", view.round)


def _sure_answer(view, facts, question):
    """The answer that the counts of all worlds give, or None."""
    answers = [answer_question(question, counts) for counts in counts_of(view, facts)]
    return answers[0] if all([answer == answers[0] for answer in answers]) else None
