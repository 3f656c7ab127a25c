"""A plain second desk for the tests, which plays everything anew after each deed, and deeds to try it on."""

from headsheard.canon import counts_of_starts
from headsheard.datatext import data_text
from headsheard.errors import (
    Away, BadDeed, BadFacts, FullDesk, HeadError, NeedsLamp, NeedsMost, NoHouse, NoNet, NotAway, NotJoined, WrongNet)
from headsheard.facts import Facts
from headsheard.foils import foil_fault
from headsheard.guesses import find_shares, guess_counts
from headsheard.joined import is_joined
from headsheard.longpapers import LongPaper
from headsheard.needs import answer_question
from headsheard.netrows import list_row
from headsheard.nets import Net
from headsheard.rowtext import read_row, row_text
from headsheard.sayings import check_saying
from headsheard.shortpapers import find_short, short_fault
from headsheard.sure import find_sure
from headsheard.views import view_of
from headsheard.worlds import counts_of
from plain_worlds import some_saying
from standings import any_net, joined_net, played

SIZES = {"net": 2, "rounds": 3, "back": 1, "lamp": 2, "most": 2, "cut": 2, "wake": 2, "guess": 2, "shares": 2,
         "paper": 2, "ask": 3, "answer": 3, "foil": 3}
HOUSED = [kind for kind in SIZES if kind not in ("net", "rounds", "back", "most")]


def tuples(thing):
    return tuple(tuples(part) for part in thing) if type(thing) in (list, tuple) else thing


def error_of(function, *args):
    """What a call raises, as a couple of its class and its attributes, or None."""
    try:
        function(*args)
    except HeadError as error:
        return (type(error), tuple(vars(error).values()))
    return None


def is_list(thing, size=None):
    return type(thing) in (list, tuple) and (size is None or len(thing) == size)


def is_shaped(words, deed):
    """Whether a deed is of the shape that step 1 of [16.5] asks for."""
    if not is_list(deed) or not deed or type(deed[0]) is not str or SIZES.get(deed[0]) != len(deed):
        return False
    if deed[0] in HOUSED and type(deed[1]) is not int:
        return False
    if deed[0] == "net":
        return is_list(deed[1], 2)
    if deed[0] == "rounds":
        return type(deed[1]) is str and type(deed[2]) is int and 1 <= deed[2] <= 36
    if deed[0] == "answer":
        question = deed[2]
        if is_list(question, 1):
            return question[0] in ("heads", "mean", "most")
        return is_list(question, 2) and question[0] == "share" and type(question[1]) is int and 0 <= question[1] < words
    return True


class PlainDesk:
    def __init__(self, starts, words, most):
        self.starts, self.words, self.most = [tuple(start) for start in starts], words, most
        self.nets, self.away, self.log = [], set(), []

    def facts(self):
        return Facts(self.most, sum(lit for lit, _ in self.starts), self.words)

    def views(self, house):
        history = played(self.starts, self.nets)
        return [view_of(history, house, level) for level in range(history.round + 1)]

    def guesses(self):
        lamps = self.facts().lamps
        return [guess_counts(self.views(house)[-1], lamps) if lamps else None for house in range(len(self.starts))]

    def refusal(self, deed):
        """What a deed raises, as a couple of its class and its attributes, or None."""
        if not is_shaped(self.words, deed):
            return (BadDeed, ())
        kind = deed[0]
        if kind in HOUSED and not 0 <= deed[1] < len(self.starts):
            return (NoHouse, (deed[1],))
        if kind in ("net", "rounds", "back", "lamp", "most") and self.away:
            return (Away, (min(self.away),))
        if kind == "wake" and deed[1] not in self.away:
            return (NotAway, (deed[1],))
        if kind not in ("wake", "net", "rounds", "back", "most") and deed[1] in self.away:
            return (Away, (deed[1],))
        return self.late_refusal(kind, deed)

    def late_refusal(self, kind, deed):
        if kind == "net":
            return error_of(Net, *deed[1]) or self.net_refusal(lambda: [Net(*deed[1])], deed[1][0])
        if kind == "rounds":
            wrong = error_of(read_row, deed[1])
            if wrong:
                return wrong
            row = read_row(deed[1])
            if row.houses == len(self.starts) and row.length is not None and row.length < deed[2]:
                return (NoNet, (row.length + 1,))
            return self.net_refusal(lambda: row.nets_to(deed[2]), row.houses)
        if kind == "back" and not self.nets:
            return (NoNet, (0,))
        if kind == "most" and deed[1] is not None:
            right = type(deed[1]) is int and len(self.starts) <= deed[1] <= 12
            return None if right else (BadFacts, ("most",))
        if kind == "paper" and self.facts().lamps != 1:
            return (NeedsLamp, ())
        wrong = error_of(check_saying, self.words, deed[2]) if kind in ("ask", "foil") else None
        if wrong:
            return wrong
        return (NeedsMost, ()) if kind in ("ask", "foil", "answer") and self.most is None else None

    def net_refusal(self, nets, houses):
        if houses != len(self.starts):
            return (WrongNet, (houses,))
        if len(self.nets) + len(nets()) > 36:
            return (FullDesk, ())
        for number, net in enumerate(nets(), len(self.nets) + 1):
            if not is_joined(net):
                return (NotJoined, (number,))
        return None

    def do(self, deed):
        """Do a deed that is not refused; what it tells, or a function that judges what it may tell."""
        kind = deed[0]
        if kind in ("net", "rounds"):
            before = self.guesses()
            self.nets += [Net(*deed[1])] if kind == "net" else list(read_row(deed[1]).nets_to(deed[2]))
            return tuple((house, guess) for house, guess in enumerate(self.guesses())
                         if guess is not None and guess != before[house])
        if kind == "cut":
            self.away.add(deed[1])
            return data_text((self.facts().told, self.views(deed[1])[-1].levels, 0, ()))
        if kind in ("back", "lamp", "most", "wake"):
            if kind == "back":
                self.nets.pop()
            elif kind == "lamp":
                lit, word = self.starts[deed[1]]
                self.starts[deed[1]] = (1 - lit, word)
            elif kind == "most":
                self.most = deed[1]
            else:
                self.away.remove(deed[1])
            return ()
        return self.asked(kind, deed, self.views(deed[1]))

    def asked(self, kind, deed, views):
        facts, view = self.facts(), views[-1]
        if kind == "guess":
            return self.guesses()[deed[1]]
        if kind == "shares":
            return find_shares(view)
        if kind == "paper":
            return lambda told: (told is None) == (find_short(view) is None) and (
                told is None or short_fault(view, told) is None and told.found == view.round)
        if kind == "answer":
            answers = {answer_question(deed[2], counts) for counts in counts_of(view, facts)}
            return answers.pop() if len(answers) == 1 else None
        if kind == "foil":
            sure = isinstance(find_sure(view, facts, deed[2]), LongPaper)
            return lambda told: told is None if sure else foil_fault(view, facts, deed[2], told) is None
        for word, saying in (("yes", deed[2]), ("no", ("not", deed[2]))):
            rounds = [one.round for one in views if isinstance(find_sure(one, facts, saying), LongPaper)]
            if rounds:
                return (word, rounds[0])
        return ("open", view.round)

    def counts(self):
        return counts_of_starts(self.starts)


def some_deed(source, desk, most_rounds=9):
    """A deed that the plain desk takes, or one that is near to such a deed."""
    houses = len(desk.starts)
    kinds = [kind for kind in SIZES if kind not in ("back", "lamp", "most", "cut", "wake")] + ["net", "net"]
    kind = source.choice(kinds * 2 + ["back", "lamp", "most", "cut", "cut", "wake"])
    if desk.away and source.randrange(2):
        kind = source.choice(("wake", "wake", "ask", "guess", "cut"))
    house = source.choice(sorted(desk.away)) if kind == "wake" and desk.away else source.randrange(houses)
    if source.randrange(25) == 0:
        house = source.choice((-1, houses, 12, None, True, "0"))
    if kind in ("net", "rounds") and len(desk.nets) >= most_rounds:
        kind = "back"
    if kind == "net":
        maker = any_net if source.randrange(8) == 0 else joined_net
        net = maker(source, houses if source.randrange(12) else source.randrange(1, 6))
        return (kind, net.told if source.randrange(2) else [net.houses, [list(link) for link in net.links][::-1]])
    if kind == "rounds":
        nets = [(any_net if source.randrange(12) == 0 else joined_net)(source, houses) for _ in range(3)]
        text = row_text(list_row(nets, ever=source.randrange(2) == 0))
        return (kind, text if source.randrange(12) else text + " ", source.choice((1, 1, 2, 2, 3, 4, 0)))
    if kind == "back":
        return (kind,)
    if kind == "most":
        return (kind, source.choice((None, houses, houses + 1, houses + 2, 6, houses - 1, 13, True)))
    if kind in ("ask", "foil"):
        saying = some_saying(source, desk.words)
        return (kind, house, saying if source.randrange(15) else source.choice((saying[:1], ("same", ((1, 4),), 1))))
    if kind == "answer":
        questions = [("heads",), ("mean",), ["most"], ("share", source.randrange(desk.words)), ["share", 0]]
        return (kind, house, source.choice(questions * 3 + [("share",), ("share", desk.words), ("heads", 1), "heads"]))
    return (kind, house)
