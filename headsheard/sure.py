"""What is sure: the sayings that hold in every world of a view."""

from headsheard.canon import heads_of
from headsheard.errors import NoWorld
from headsheard.longpapers import LongPaper
from headsheard.sayings import holds
from headsheard.worlds import Walk, check_bound, counts_of, world_with


def find_sure(view, facts, saying):
    """A long paper if the saying is sure, else a world in which it does not hold."""
    check_bound(facts)
    lists = []
    has_world = False
    for heads in range(1, facts.most + 1):
        walk = Walk(view, heads)
        lists.append(walk.lists)
        for counts in walk.counts_left(view, facts, heads):
            if not holds(saying, counts):
                return world_with(view, facts, counts)
            has_world = True
    if not has_world:
        raise NoWorld()
    return LongPaper(facts.most, lists)


def first_sure(views, facts, saying):
    """The round of the first of these views in which the saying is sure, or None."""
    for view in views:
        if isinstance(find_sure(view, facts, saying), LongPaper):
            return view.round
    return None


def _counts_of_some(view, facts):
    """The counts of all worlds; NoWorld if there is none."""
    found = counts_of(view, facts)
    if not found:
        raise NoWorld()
    return found


def sure_counts(view, facts):
    """The counts that all worlds have, or None if two have unlike ones."""
    found = _counts_of_some(view, facts)
    return found[0] if len(found) == 1 else None


def heads_left(view, facts):
    """The numbers of heads of all worlds, ascending."""
    return tuple(sorted({heads_of(counts): True for counts in _counts_of_some(view, facts)}))
