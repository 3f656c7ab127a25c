"""Houses: each knows its facts, its start and what it has heard, nothing else."""

from headsheard.canon import is_start, is_whole
from headsheard.errors import BadStart, NotOneRound, WrongFacts, WrongLetter
from headsheard.facts import facts_of
from headsheard.joining import joined_view
from headsheard.letters import check_letter, letter_of, starts_fit
from headsheard.plain import is_couple, is_sequence
from headsheard.strengths import check_strength, plus
from headsheard.views import View, trusted_view


def _gathered(heard, hearing):
    """The couples (levels, strength) of the unlike ones among those heard, ascending."""
    gathered = []
    for levels, strength in sorted(heard):
        if hearing == "which":
            strength = (1, 1)
        if not gathered or gathered[-1][0] != levels:
            gathered.append((levels, strength))
        elif hearing != "which":
            gathered[-1] = (levels, plus(gathered[-1][1], strength))
    return tuple(gathered)


class House:
    """A house with its view, and with what it heard in a stretch that has not ended."""

    def __init__(self, start, facts):
        if not is_start(start) or not starts_fit(facts, (start,)):
            raise BadStart()
        self.start = tuple(start)
        self.facts = facts
        self.view = View(((self.start,),))
        self.round = 0
        self.amid = 0
        self.waiting = ()

    def letter(self):
        """What the house tells in this round."""
        return letter_of(self.view, self.facts)

    def hear(self, letters):
        """One round, in which the house hears these couples (letter, strength)."""
        self.hear_views([self._checked_entry(entry, at) for at, entry in enumerate(letters)])

    def _checked_entry(self, entry, at):
        """The couple (view, strength) of what stands at this place of what is heard."""
        if not is_couple(entry):
            raise WrongLetter("shape")
        letter, strength = entry
        told_strength = check_strength(strength)
        view = check_letter(letter)
        if tuple(letter[0]) != self.facts.told:
            raise WrongFacts(at)
        if view.round != self.view.round:
            raise NotOneRound(at)
        return view, told_strength

    def hear_views(self, heard):
        """One round, in which the house hears these couples (view, strength) of houses that are told the same."""
        if self.amid < self.facts.stretch - 1:
            told = [(view.levels, strength) for view, strength in heard]
            self.waiting = _gathered(list(self.waiting) + told, self.facts.hearing)
            self.amid += 1
        else:
            self.view = self._next_view(heard)
            self.waiting = ()
            self.amid = 0
        self.round += 1

    def _next_view(self, heard):
        """The view behind the last round of a stretch."""
        waiting = [(trusted_view(levels), strength) for levels, strength in self.waiting]
        view = joined_view(self.view, waiting + heard, self.facts.hearing)
        if not starts_fit(self.facts, view.levels[0]):
            raise WrongLetter("start")
        return view

    def copied(self):
        """A new house that goes on from where this one is."""
        house = House(self.start, self.facts)
        house.view = self.view
        house.round = self.round
        house.amid = self.amid
        house.waiting = self.waiting
        return house

    def kept(self):
        """The house as plain data."""
        return (self.facts.told, self.view.levels, self.amid, self.waiting)

    @classmethod
    def taken_up(cls, data):
        """The house that was put away as this data."""
        if not is_sequence(data, 4, 4):
            raise WrongLetter("shape")
        told, levels, amid, waiting = data
        view = check_letter((told, levels))
        facts = facts_of(told)
        if not is_whole(amid, 0, facts.stretch - 1):
            raise WrongLetter("amid")
        if not is_sequence(waiting) or (amid == 0 and len(waiting) > 0):
            raise WrongLetter("waiting")
        house = cls(view.start_of(view.round, 0), facts)
        house.view = view
        house.round = view.round * facts.stretch + amid
        house.amid = amid
        house.waiting = _checked_waiting(waiting, view, facts)
        return house

    def __eq__(self, other):
        return (isinstance(other, House) and self.facts == other.facts and self.view == other.view
                and self.amid == other.amid and self.waiting == other.waiting)


def _checked_waiting(waiting, view, facts):
    """What a house with this view has waiting, as tuples; the errors of `taken_up` for its first fault."""
    checked = []
    for at, entry in enumerate(waiting):
        if not is_couple(entry):
            raise WrongLetter("waiting")
        strength = check_strength(entry[1])
        heard = check_letter((facts.told, entry[0]))
        if heard.round != view.round:
            raise NotOneRound(at)
        if facts.hearing == "which" and strength != (1, 1):
            raise WrongLetter("waiting")
        if checked and heard.levels <= checked[-1][0]:
            raise WrongLetter("waiting")
        checked.append((heard.levels, strength))
    return tuple(checked)
