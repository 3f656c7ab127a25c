"""Desks: some houses, nets laid one behind another, and what the houses tell of it."""

from headsheard.canon import counts_of_starts, is_whole, lit_of
from headsheard.datatext import data_text, read_data
from headsheard.errors import (
    Away, BadDeed, BadFacts, FullDesk, HeadError, NeedsLamp, NoHouse, NoNet, NotAway, NotJoined, WrongNet)
from headsheard.facts import MOST_TOLD, Facts, fits_facts
from headsheard.foils import find_foil
from headsheard.guesses import find_shares, guess_counts
from headsheard.histories import check_starts
from headsheard.houses import House
from headsheard.joined import is_joined
from headsheard.needs import answer_question
from headsheard.nets import Net
from headsheard.plain import as_tuples, is_couple, is_integer, is_sequence
from headsheard.rowtext import read_row
from headsheard.sayings import check_saying
from headsheard.shortpapers import find_short
from headsheard.sure import first_sure
from headsheard.views import earlier_view
from headsheard.worlds import counts_of

MOST_ROUNDS = 36
# How many entries a deed has that begins with the word.
ENTRIES = {
    "net": 2, "rounds": 3, "back": 1, "lamp": 2, "most": 2, "cut": 2, "wake": 2,
    "guess": 2, "shares": 2, "paper": 2, "ask": 3, "answer": 3, "foil": 3,
}
# The deeds for which no house may be away.
FOR_ALL = ("net", "rounds", "back", "lamp", "most")
# The deeds whose second entry is no house.
WITHOUT_HOUSE = ("net", "rounds", "back", "most")
PLAIN_QUESTIONS = ("heads", "mean", "most")


def _check_shape(words, deed):
    """BadDeed unless the deed is of a shape that a deed has."""
    if not is_sequence(deed, 1) or not isinstance(deed[0], str) or ENTRIES.get(deed[0]) != len(deed):
        raise BadDeed()
    kind = deed[0]
    if _has_house(deed) and not is_integer(deed[1]):
        raise BadDeed()
    if kind == "net" and not is_couple(deed[1]):
        raise BadDeed()
    if kind == "rounds" and not (isinstance(deed[1], str) and is_whole(deed[2], 1, MOST_ROUNDS)):
        raise BadDeed()
    if kind == "answer" and not _is_question(words, deed[2]):
        raise BadDeed()


def _has_house(deed):
    """Whether the second entry of a deed is a house."""
    return deed[0] not in WITHOUT_HOUSE


def _is_question(words, thing):
    if not is_sequence(thing, 1, 2):
        return False
    if len(thing) == 1:
        return thing[0] in PLAIN_QUESTIONS
    return thing[0] == "share" and is_whole(thing[1], 0, words - 1)


def _asked(view, facts, deed):
    """What a deed that asks the house with this view tells."""
    kind = deed[0]
    if kind == "guess":
        return _guess_of(view, facts)
    if kind == "shares":
        return find_shares(view)
    if kind == "paper":
        if facts.lamps != 1:
            raise NeedsLamp()
        return find_short(view)
    # Without a most, whatever asks for worlds raises NeedsMost.
    if kind == "answer":
        return _sure_answer(view, facts, deed[2])
    saying = check_saying(facts.words, deed[2])
    return find_foil(view, facts, saying) if kind == "foil" else _verdict(view, facts, saying)


def _guess_of(view, facts):
    """The counts that a house with this view guesses, or None."""
    return None if facts.lamps == 0 else guess_counts(view, facts.lamps)


def _verdict(view, facts, saying):
    """Whether a saying is sure, or its opposite, and since when."""
    for word, given in (("yes", saying), ("no", ("not", saying))):
        # What is sure stays sure, so the earlier views need only be looked at if it is sure now.
        if first_sure([view], facts, given) is not None:
            views = [earlier_view(view, level) for level in range(view.round + 1)]
            return (word, first_sure(views, facts, given))
    return ("open", view.round)


def _sure_answer(view, facts, question):
    """The answer that the counts of all worlds give, or None."""
    answers = [answer_question(question, counts) for counts in counts_of(view, facts)]
    return answers[0] if all([answer == answers[0] for answer in answers]) else None


def _facts_for(starts, words, most):
    """What the houses of a desk are told."""
    counts = counts_of_starts(starts)
    facts = Facts(most, lit_of(counts), words)
    misfit = fits_facts(facts, counts)
    if misfit is not None:
        raise BadFacts(misfit)
    return facts


def _played(houses, nets):
    """The houses behind these further nets, as new ones."""
    lot = [house.copied() for house in houses]
    for net in nets:
        views = [house.view for house in lot]
        for at, house in enumerate(lot):
            house.hear_views([(views[other], strength) for other, strength in net.heard_by(at)])
    return tuple(lot)


class Trial:
    """What deeds would tell, and the place of the first one that would be refused: a result."""

    def __init__(self, tolds, refused):
        self.tolds = tolds
        self.refused = refused

    def __eq__(self, other):
        return isinstance(other, Trial) and self.tolds == other.tolds and self.refused == other.refused


class Desk:
    """Houses at which deeds are done one by one."""

    def __init__(self, starts, words=1, most=None):
        self.starts = check_starts(starts)
        self._facts = _facts_for(self.starts, words, most)
        self.words = words
        self.most = most
        self.course = ()
        self.away = ()
        self.log = ()
        # A house that is away is None here, and stands as a text among those put away.
        self._lot = tuple([House(start, self._facts) for start in self.starts])
        self._put_away = {}

    def do_deed(self, deed):
        """Do a deed; what it tells."""
        _check_shape(self.words, deed)
        self._check_house(deed)
        told = self._told(deed)
        self.log = self.log + ((as_tuples(deed), told),)
        return told

    def _check_house(self, deed):
        """Raise what is wrong with the house of a deed, or with houses that are away."""
        kind = deed[0]
        if _has_house(deed) and not is_whole(deed[1], 0, len(self.starts) - 1):
            raise NoHouse(deed[1])
        if kind in FOR_ALL:
            if self.away:
                raise Away(self.away[0])
        elif kind == "wake":
            if deed[1] not in self.away:
                raise NotAway(deed[1])
        elif deed[1] in self.away:
            raise Away(deed[1])

    def _told(self, deed):
        """Do what the deed asks for."""
        kind = deed[0]
        if kind == "net":
            return self._next_net(deed[1])
        if kind == "rounds":
            return self._next_rounds(deed[1], deed[2])
        if kind == "back":
            return self._take_back()
        if kind == "lamp":
            return self._turn_lamp(deed[1])
        if kind == "most":
            return self._tell_most(deed[1])
        if kind == "cut":
            return self._cut(deed[1])
        if kind == "wake":
            return self._wake(deed[1])
        return _asked(self._lot[deed[1]].view, self._facts, deed)

    def _next_net(self, told):
        houses, links = told
        net = Net(houses, links)
        self._check_size(net.houses)
        return self._add_nets([net])

    def _next_rounds(self, text, many):
        net_row = read_row(text)
        self._check_size(net_row.houses)
        return self._add_nets(list(net_row.nets_to(many)))

    def _check_size(self, houses):
        if houses != len(self.starts):
            raise WrongNet(houses)

    def _add_nets(self, nets):
        """Lay nets as the next rounds; the guesses that are new by this."""
        if len(self.course) + len(nets) > MOST_ROUNDS:
            raise FullDesk()
        for at, net in enumerate(nets):
            if not is_joined(net):
                raise NotJoined(len(self.course) + at + 1)
        before = self._guesses()
        self._lot = _played(self._lot, nets)
        self.course = self.course + tuple(nets)
        return tuple([(house, guess) for house, guess in enumerate(self._guesses())
                      if guess is not None and guess != before[house]])

    def _guesses(self):
        return [_guess_of(house.view, self._facts) for house in self._lot]

    def _take_back(self):
        if not self.course:
            raise NoNet(0)
        self._begin_anew(self.starts, self.most, self.course[:-1])
        return ()

    def _turn_lamp(self, house):
        lit, word = self.starts[house]
        self._begin_anew(self.starts[:house] + ((1 - lit, word),) + self.starts[house + 1:], self.most, self.course)
        return ()

    def _tell_most(self, most):
        if most is not None and not is_whole(most, len(self.starts), MOST_TOLD):
            raise BadFacts("most")
        self._begin_anew(self.starts, most, self.course)
        return ()

    def _begin_anew(self, starts, most, course):
        """Play these nets from the start."""
        self._facts = _facts_for(starts, self.words, most)
        self._lot = _played([House(start, self._facts) for start in starts], course)
        self.starts = starts
        self.most = most
        self.course = course

    def _cut(self, house):
        text = data_text(self._lot[house].kept())
        self._put_away[house] = text
        self._seat(house, None)
        return text

    def _wake(self, house):
        self._seat(house, House.taken_up(read_data(self._put_away.pop(house))))
        return ()

    def _seat(self, house, thing):
        """Put a house, or None for one that is away, in its place."""
        self._lot = self._lot[:house] + (thing,) + self._lot[house + 1:]
        self.away = tuple([other for other in range(len(self._lot)) if self._lot[other] is None])

    def trial_deeds(self, deeds):
        """What these deeds would tell, up to the first one that would be refused."""
        desk = self._copied()
        tolds = []
        for at, deed in enumerate(deeds):
            try:
                tolds.append(desk.do_deed(deed))
            except HeadError:
                return Trial(tuple(tolds), at)
        return Trial(tuple(tolds), None)

    def _copied(self):
        """A new desk that goes on from where this one is, with an empty log."""
        desk = Desk(self.starts, self.words, self.most)
        desk.course = self.course
        desk.away = self.away
        desk._lot = self._lot
        desk._put_away = {house: self._put_away[house] for house in self._put_away}
        return desk

    def __len__(self):
        return len(self.log)

    def __iter__(self):
        return iter(self.log)

    def __eq__(self, other):
        return (isinstance(other, Desk) and self.starts == other.starts and self.words == other.words
                and self.most == other.most and self.course == other.course and self.away == other.away)
