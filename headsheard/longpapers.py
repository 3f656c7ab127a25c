"""Long papers: closed lists of rows that show that a saying is sure."""

from headsheard.plain import as_tuples
from headsheard.sayings import holds
from headsheard.steps import Step, StepShape
from headsheard.worlds import check_bound, start_counts


class LongPaper:
    """For each number of heads, and each level of a view, a list of rows: a result."""

    def __init__(self, most, lists):
        self.most = most
        self.lists = as_tuples(lists)
        self.told = (self.most, self.lists)

    def __eq__(self, other):
        return isinstance(other, LongPaper) and self.told == other.told


def long_fault(view, facts, saying, paper):
    """The first fault of a long paper, or None."""
    check_bound(facts)
    if paper.most != facts.most or len(paper.lists) != facts.most:
        return ("most", None, None)
    for heads, lists in enumerate(paper.lists, start=1):
        fault = _form_fault(view, lists, heads)
        if fault is None:
            fault = _open_fault(view, lists, heads)
        if fault is None and not _holds_for_all(view, facts, saying, lists[0], heads):
            fault = ("false", heads, 0)
        if fault is not None:
            return fault
    return None


def _form_fault(view, lists, heads):
    if len(lists) != view.round + 1:
        return ("levels", heads, None)
    for level, rows in enumerate(lists):
        if not all([_is_row(row, len(view.levels[level]), heads) for row in rows]):
            return ("row", heads, level)
    return None


def _is_row(row, places, heads):
    """Whether this is a row of a level with so many nodes for so many heads."""
    return len(row) == places and all([number >= 1 for number in row]) and sum(row) <= heads


def _open_fault(view, lists, heads):
    """The fault of lists that are not closed, or None."""
    if not all([(number,) in lists[-1] for number in range(1, heads + 1)]):
        return ("top", heads, view.round)
    for level in range(view.round - 1, -1, -1):
        listed = {row: True for row in lists[level]}
        shape = StepShape(view, level)
        # A row may be listed twice, but it is asked once.
        for above in {row: True for row in lists[level + 1]}:
            if not all([row in listed for row in Step(shape, above, heads).lawful_rows()]):
                return ("open", heads, level)
    return None


def _holds_for_all(view, facts, saying, rows, heads):
    """Whether the saying holds for all counts that these rows of level 0 leave."""
    for row in rows:
        if not all([holds(saying, counts) for counts in start_counts(view, row, facts, heads)]):
            return False
    return True
