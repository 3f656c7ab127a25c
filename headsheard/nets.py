"""Nets: which houses hear one another in one round, and how strongly."""

from headsheard.canon import is_whole
from headsheard.errors import BadNet, BadStrength, UnlikeNets
from headsheard.plain import is_sequence
from headsheard.strengths import check_strength, plus, times

MOST_HOUSES = 12


def _check_houses(houses):
    if not is_whole(houses, 1, MOST_HOUSES):
        raise BadNet("houses", 0)


def _check_link(houses, link, at):
    """The strength of a link; BadNet with its first fault."""
    if not is_sequence(link, 3, 3):
        raise BadNet("form", at)
    one, other, strength = link
    if not is_whole(one, 0, houses - 1) or not is_whole(other, 0, houses - 1):
        raise BadNet("house", at)
    if one > other:
        raise BadNet("order", at)
    try:
        return check_strength(strength)
    except BadStrength:
        raise BadNet("strength", at) from None


class Net:
    """The links of so many houses in one round."""

    def __init__(self, houses, links):
        _check_houses(houses)
        if not is_sequence(links):
            raise BadNet("links", 0)
        strengths = {}
        for at, link in enumerate(links):
            strength = _check_link(houses, link, at)
            pair = (link[0], link[1])
            if pair in strengths:
                raise BadNet("twice", at)
            strengths[pair] = strength
        self.houses = houses
        self.links = tuple([(one, other, strengths[(one, other)]) for one, other in sorted(strengths)])
        self.told = (houses, self.links)
        self._strengths = strengths

    def heard_by(self, house):
        """The couples (other, strength) of the houses that the house hears, ascending."""
        found = [(other, self.strength_of(house, other)) for other in range(self.houses)]
        return tuple([(other, strength) for other, strength in found if strength is not None])

    def strength_of(self, one, other):
        """The strength of the link of two houses, or None."""
        return self._strengths.get((min(one, other), max(one, other)))

    def __eq__(self, other):
        return isinstance(other, Net) and self.told == other.told


def add_nets(one, other):
    """The net with the links of either net; where both have one, the strengths are added."""
    if one.houses != other.houses:
        raise UnlikeNets()
    strengths = {(i, j): strength for i, j, strength in one.links}
    for i, j, strength in other.links:
        strengths[(i, j)] = plus(strengths[(i, j)], strength) if (i, j) in strengths else strength
    return Net(one.houses, [(i, j, strengths[(i, j)]) for i, j in strengths])


def scale_net(net, strength):
    """The net with each strength multiplied by this one."""
    factor = check_strength(strength)
    return Net(net.houses, [(i, j, times(factor, heard)) for i, j, heard in net.links])


def renumber_net(net, places):
    """The net in which house k has become house places[k]."""
    if not _are_places(places, net.houses):
        raise BadNet("places", 0)
    moved = [(places[i], places[j], strength) for i, j, strength in net.links]
    return Net(net.houses, [(min(i, j), max(i, j), strength) for i, j, strength in moved])


def _are_places(places, houses):
    """Whether this is a list or tuple that holds each house once."""
    if not is_sequence(places, houses, houses):
        return False
    return all([is_whole(place) for place in places]) and sorted(places) == list(range(houses))


def _one_strength_net(houses, pairs, strength, echo):
    """The net with links of one strength, and with echoes if their strength is not None."""
    heard = check_strength(strength)
    links = [(i, j, heard) for i, j in pairs]
    if echo is not None:
        own = check_strength(echo)
        links = links + [(house, house, own) for house in range(houses)]
    return Net(houses, links)


def _pairs_in_a_row(houses):
    return [(house, house + 1) for house in range(houses - 1)]


def complete_net(houses, strength, *, echo=None):
    """The net that links any two houses."""
    _check_houses(houses)
    pairs = [(i, j) for j in range(houses) for i in range(j)]
    return _one_strength_net(houses, pairs, strength, echo)


def path_net(houses, strength, *, echo=None):
    """The net that links each house and the next one."""
    _check_houses(houses)
    return _one_strength_net(houses, _pairs_in_a_row(houses), strength, echo)


def ring_net(houses, strength, *, echo=None):
    """The net that links each house and the next one, and from three houses on the last one and the first."""
    _check_houses(houses)
    closing = [(0, houses - 1)] if houses >= 3 else []
    return _one_strength_net(houses, _pairs_in_a_row(houses) + closing, strength, echo)


def star_net(houses, centre, strength, *, echo=None):
    """The net that links one house and each other one."""
    _check_houses(houses)
    if not is_whole(centre, 0, houses - 1):
        raise BadNet("centre", 0)
    pairs = [(min(centre, house), max(centre, house)) for house in range(houses) if house != centre]
    return _one_strength_net(houses, pairs, strength, echo)
