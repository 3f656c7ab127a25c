"""How the links of a net join its houses, and how standings travel over nets."""


class Joining:
    """The steps by which all houses of a net are met: a result."""

    def __init__(self, steps):
        self.steps = steps

    def __eq__(self, other):
        return isinstance(other, Joining) and self.steps == other.steps


class Cut:
    """Houses from which no link leads to another house: a result."""

    def __init__(self, houses):
        self.houses = houses

    def __eq__(self, other):
        return isinstance(other, Cut) and self.houses == other.houses


def _piece_of(net, house):
    """The ascending tuple of the houses that are led to the house."""
    met = {house: True}
    waiting = [house]
    while waiting:
        here = waiting.pop()
        for other, _ in net.heard_by(here):
            if other not in met:
                met[other] = True
                waiting.append(other)
    return tuple(sorted(met))


def pieces_of(net):
    """The greatest lots of houses that are led to one another."""
    pieces = []
    placed = {}
    for house in range(net.houses):
        if house not in placed:
            piece = _piece_of(net, house)
            pieces.append(piece)
            placed.update({other: True for other in piece})
    return tuple(pieces)


def is_joined(net):
    """Whether any two houses of the net are led to one another."""
    return len(_piece_of(net, 0)) == net.houses


def find_joining(net):
    """The steps of a joined net, the piece of house 0 as a cut of every other one."""
    piece = _piece_of(net, 0)
    if len(piece) < net.houses:
        return Cut(piece)
    met = {0: True}
    steps = []
    while len(met) < net.houses:
        step = min([(one, other) for one in met for other, _ in net.heard_by(one) if other not in met])
        met[step[1]] = True
        steps.append(step)
    return Joining(tuple(steps))


def joining_fault(net, steps):
    """The index of the first wrong step, len(steps) if some house is not met at the end, else None."""
    met = {0: True}
    for at, (one, other) in enumerate(steps):
        # No house of the net has a link with what is no house.
        if one not in met or other in met or net.strength_of(one, other) is None:
            return at
        met[other] = True
    return None if len(met) == net.houses else len(steps)


def cut_fault(net, houses):
    """What is wrong with a lot of houses that no link shall leave, or None."""
    lot = {house: True for house in houses}
    if not lot:
        return "empty"
    if len(lot) < len(houses) or not all([0 <= house < net.houses for house in houses]):
        return "houses"
    if len(lot) == net.houses:
        return "whole"
    if any([(i in lot) != (j in lot) for i, j, _ in net.links]):
        return "link"
    return None


def sources_of(nets, house):
    """For each level the houses whose standing there can have come to the house by the last level."""
    lots = [(house,)]
    for net in reversed(nets):
        known = {heard: True for heard in lots[-1]}
        for one in lots[-1]:
            known.update({other: True for other, _ in net.heard_by(one)})
        lots.append(tuple(sorted(known)))
    return tuple(lots[::-1])
