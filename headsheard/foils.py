"""Foils: rows of nets in which some house has a given view and the numbers are those of a given world."""

from headsheard.canon import counts_of_starts, is_whole
from headsheard.errors import BadStarts, NeedsSums
from headsheard.facts import fits_facts
from headsheard.histories import History, check_starts
from headsheard.joined import is_joined
from headsheard.longpapers import LongPaper
from headsheard.nets import Net
from headsheard.plain import is_sequence
from headsheard.sayings import holds
from headsheard.strengths import NONE, greatest, lowest, minus, plus, times, total
from headsheard.stubs import echo_links, stub_links
from headsheard.sure import find_sure
from headsheard.views import seen_classes, view_of
from headsheard.worlds import World, hidden_starts

ONE = (1, 1)


class Foil:
    """Starts, a net for each round, and the house that has the view: a result."""

    def __init__(self, starts, nets, house):
        self.starts = starts
        self.nets = nets
        self.house = house

    def __eq__(self, other):
        return (isinstance(other, Foil) and self.starts == other.starts and self.nets == other.nets
                and self.house == other.house)


def seats_of(view, world):
    """For each level the node at which each house of a world sits, or None."""
    seats = [_filled(world.rows[0], list(range(len(world.rows[0]))), world.heads)]
    for level in range(view.round):
        later = [None] * world.heads
        for node in range(len(view.levels[level])):
            houses = _sitting(seats[-1], node)
            taken = _filled(world.rows[level + 1], view.children(level, node), len(houses))
            for house, child in zip(houses, taken):
                later[house] = child
        seats.append(tuple(later))
    return tuple(seats)


def _filled(row, nodes, houses):
    """The nodes, each as often as its number in the row tells, and None for each further house."""
    taken = [node for node in nodes for _ in range(row[node])]
    return tuple(taken + [None] * (houses - len(taken)))


def _sitting(seats, node):
    return [house for house, seat in enumerate(seats) if seat == node]


class FoilRound:
    """What the houses have to hear in one round, given their seats ahead of it and behind it."""

    def __init__(self, view, level, seats):
        self.nodes = list(range(len(view.levels[level])))
        self.later = seats[level + 1]
        self.houses = [_sitting(seats[level], node) for node in self.nodes]
        self.heard = [dict(heard) for _, heard in view.levels[level + 1]]
        self.losing = [[house for house in houses if self.later[house] is None] for houses in self.houses]

    def asked_of(self, house, other):
        """What a house with a seat behind the round has to hear of the houses at a node."""
        return self.heard[self.later[house]].get(other, NONE)

    def sum_asked(self, node, other):
        """What the houses at a node that keep a seat have to hear of the houses at another one, all together."""
        return total([self.asked_of(house, other) for house in self.houses[node] if self.later[house] is not None])

    def share_of_lack(self, node, other):
        """What each house at a node that loses its seat hears of the houses at another one."""
        asked, back = self.sum_asked(node, other), self.sum_asked(other, node)
        # Where all houses at the other node keep their seats, what they have to hear is all that there is.
        whole = plus(greatest([asked, back]), ONE) if self.losing[other] else back
        return times(minus(whole, asked), lowest(1, len(self.losing[node])))

    def stubs(self, node, other):
        """What each house at a node hears of the houses at another one."""
        share = self.share_of_lack(node, other) if self.losing[node] else NONE
        return [share if self.later[house] is None else self.asked_of(house, other) for house in self.houses[node]]

    def links_between(self, node, other):
        """The links between the houses at two nodes."""
        links = stub_links(self.stubs(node, other), self.stubs(other, node))
        return [(self.houses[node][i], self.houses[other][j], strength) for i, j, strength in links]

    def links_within(self, node):
        """The links and echoes of the houses at one node."""
        stubs = [ONE if self.later[house] is None else self.asked_of(house, node) for house in self.houses[node]]
        return [(self.houses[node][i], self.houses[node][j], strength) for i, j, strength in echo_links(stubs)]

    def links_behind(self):
        """What joins the houses without a seat behind the round, and keeps them from standing like a seated one."""
        unseated = _sitting(self.later, None)
        loud = plus(greatest([strength for heard in self.heard for strength in list(heard.values())]), ONE)
        return [(one, other, loud if one == other else ONE) for one in unseated for other in unseated if one <= other]

    def all_links(self):
        links = self.links_behind()
        for node in self.nodes:
            links.extend(self.links_within(node))
            for other in self.nodes:
                if node < other:
                    links.extend(self.links_between(node, other))
        return links


def round_net(view, level, seats):
    """A net for the round behind a level in which the seated houses hear what the view tells."""
    strengths = {}
    for one, other, strength in FoilRound(view, level, seats).all_links():
        pair = (min(one, other), max(one, other))
        strengths[pair] = plus(strengths.get(pair, NONE), strength)
    return Net(len(seats[level]), [(one, other, strengths[(one, other)]) for one, other in strengths])


def foil_data(foil):
    """A foil as plain data."""
    return (foil.starts, tuple([net.told for net in foil.nets]), foil.house)


def foil_of(view, facts, world):
    """A foil of a world of the view."""
    if facts.hearing == "which":
        raise NeedsSums()
    seats = seats_of(view, world)
    starts = [view.levels[0][seat] for seat in seats[0] if seat is not None]
    for start, number in hidden_starts(view, world):
        starts.extend([start] * number)
    nets = tuple([round_net(view, level, seats) for level in range(view.round)])
    return Foil(tuple(starts), nets, seats[-1].index(0))


def form_fault(facts, foil, rounds):
    """The first fault of a foil with so many rounds, whatever view its house has, or None."""
    try:
        starts = check_starts(foil.starts)
    except BadStarts:
        return "starts"
    misfit = fits_facts(facts, counts_of_starts(starts))
    if misfit is not None:
        return misfit
    if not is_sequence(foil.nets, rounds, rounds):
        return "rounds"
    if not all([net.houses == len(starts) and is_joined(net) for net in foil.nets]):
        return "net"
    return None if is_whole(foil.house, 0, len(starts) - 1) else "house"


def _history_of(foil, hearing):
    history = History(foil.starts, hearing)
    for net in foil.nets:
        history.add(net)
    return history


def view_in(foil, hearing):
    """The view that the foil's house has at the end."""
    return view_of(_history_of(foil, hearing), foil.house)


def foil_fault(view, facts, saying, foil):
    """The first fault of a foil of a view in which a saying does not hold, or None."""
    fault = form_fault(facts, foil, view.round)
    if fault is not None:
        return fault
    if not view_in(foil, facts.hearing) == view:
        return "view"
    if saying is not None and holds(saying, counts_of_starts(foil.starts)):
        return "saying"
    return None


def find_foil(view, facts, saying):
    """A foil in which the saying does not hold, or None if the saying is sure."""
    found = find_sure(view, facts, saying)
    return None if isinstance(found, LongPaper) else foil_of(view, facts, found)


def world_in(view, foil):
    """The world in a foil of the view."""
    history = _history_of(foil, "sums")
    # The nodes of a view stand in the order of the classes that are seen.
    seen = seen_classes(history, foil.house, history.round)
    rows = [_houses_in(history.classes(level), lot) for level, lot in enumerate(seen)]
    return World(rows, counts_of_starts(foil.starts))


def _houses_in(classes, numbers):
    """How many houses are in each of the classes with these numbers."""
    return tuple([len(classes[number].houses) for number in numbers])
