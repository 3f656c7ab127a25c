"""Stopping: when all houses stop together, with the same answer."""

from headsheard.canon import is_whole
from headsheard.errors import BadHouses, NotNext, NotSame
from headsheard.shortpapers import find_short
from headsheard.views import earlier_view


def latest_round(houses):
    """The round by which each of so many houses has a short paper in joined nets."""
    if not is_whole(houses, 1):
        raise BadHouses(houses)
    return 1 if houses == 1 else 3 * houses - 3


class Stopper:
    """Looks at the views of one house, round by round, until it may stop."""

    def __init__(self):
        self.seen = 0
        self.paper = None
        self.stop = None
        self.answer = None
        self._last = None

    def look(self, view):
        """The round to stop in with the houses and the counts if it has come, else None."""
        due = self.seen
        if view.round != due:
            raise NotNext(due)
        if due > 0 and earlier_view(view, due - 1) != self._last:
            raise NotSame(due)
        if self.paper is None:
            self._take(find_short(view))
        self.seen = due + 1
        self._last = view
        if self.stop is not None and self.stop <= due:
            self.answer = (self.stop, self.paper.houses, self.paper.counts)
        return self.answer

    def _take(self, paper):
        if paper is not None:
            self.paper = paper
            self.stop = max(paper.found, latest_round(paper.houses))
