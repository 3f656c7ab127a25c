"""What a house makes of its view and of the views that it hears."""

from headsheard.errors import BadView, NotOneRound
from headsheard.strengths import NONE, check_strength, plus
from headsheard.views import MOST_LEVELS, MOST_NODES, moved_nodes, trusted_view


def joined_view(own, heard, hearing="sums"):
    """The next view of a house that has the view `own` and hears these couples (view, strength)."""
    strengths = []
    for at, (view, strength) in enumerate(heard):
        strengths.append(check_strength(strength))
        if view.round != own.round:
            raise NotOneRound(at)
    if own.round + 2 > MOST_LEVELS:
        raise BadView("levels", 0, 0)
    levels, places = _merged([own.levels] + [view.levels for view, _ in heard])
    node = (places[0], _heard_row(places[1:], strengths, hearing))
    return trusted_view(levels + ((node,),))


def _heard_row(places, strengths, hearing):
    """The heard row of a node that hears each of these nodes with the strength beside it."""
    sums = {}
    for place, strength in zip(places, strengths):
        sums[place] = plus(sums.get(place, NONE), strength)
    if hearing == "which":
        return tuple([(place, (1, 1)) for place in sorted(sums)])
    return tuple([(place, sums[place]) for place in sorted(sums)])


def _merged(views):
    """The levels with all nodes of the levels of some views, and the place of each view's own node in the last one."""
    levels = []
    # For each view the place of each of its nodes; None if all of the level is in the view, so that they keep theirs.
    places = [None] * len(views)
    for at in range(len(views[0])):
        rows = [_moved_row(view[at], place_of) for view, place_of in zip(views, places)]
        nodes = _union_of(rows)
        if len(nodes) > MOST_NODES:
            raise BadView("level", at, 0)
        levels.append(nodes)
        places = [None if row == nodes else [nodes.index(node) for node in row] for row in rows]
    return tuple(levels), [0 if place_of is None else place_of[0] for place_of in places]


def _moved_row(nodes, place_of):
    return nodes if place_of is None else tuple(moved_nodes(nodes, place_of))


def _union_of(rows):
    """All nodes that stand in some row, each once, ascending."""
    if all([row == rows[0] for row in rows]):
        return rows[0]
    return tuple(sorted({node: True for row in rows for node in row}))


def dropped_view(view):
    """What hearing "which" leaves of a view."""
    levels = [view.levels[0]]
    place_of = list(range(len(view.levels[0])))
    for level in view.levels[1:]:
        nodes = [(place_of[parent], _dropped_row(heard, place_of)) for parent, heard in level]
        # Nodes that have become alike are one; the others need not stand in their old order.
        levels.append(tuple(sorted(set(nodes))))
        place_of = [levels[-1].index(node) for node in nodes]
    return trusted_view(tuple(levels))


def _dropped_row(heard, place_of):
    """A heard row without its strengths."""
    return tuple([(place, (1, 1)) for place in sorted({place_of[number] for number, _ in heard})])
