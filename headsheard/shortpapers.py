"""Short papers: as many still levels as houses, with numbers that agree."""

from headsheard.errors import NeedsLamp, NeedsSums
from headsheard.stilllevels import are_numbers_balanced, counts_at, lit_sum, numbers_agree, still_fault, still_numbers
from headsheard.views import check_level, earlier_view


class ShortPaper:
    """Still levels of the view of one round, with the numbers of their nodes: a result."""

    def __init__(self, found, levels, numbers, houses, counts):
        self.found = found
        self.levels = levels
        self.numbers = numbers
        self.houses = houses
        self.counts = counts
        self.told = (found, levels, numbers, houses, counts)

    def __eq__(self, other):
        return isinstance(other, ShortPaper) and self.told == other.told


class ShortFault:
    """The first fault of a short paper, and the level of it: a result."""

    def __init__(self, what, level):
        self.what = what
        self.level = level

    def __eq__(self, other):
        return isinstance(other, ShortFault) and self.what == other.what and self.level == other.level


def find_short(view):
    """A right short paper of the view's round, or None if there is none."""
    # For each still level so far the longest row of agreeing levels that ends with it, as couples (level, numbers).
    chains = []
    for level in range(view.round):
        numbers = still_numbers(view, level)
        if numbers is not None:
            chain = _longest_before(view, chains, level, numbers) + ((level, numbers),)
            chains.append(chain)
            # Levels that agree have one sum, so no row grows beyond it unseen.
            if len(chain) == sum(numbers):
                return _paper_of(view, chain)
    return None


def _longest_before(view, chains, level, numbers):
    """The longest of the rows whose last level agrees with these numbers of a level."""
    longest = ()
    for chain in chains:
        last, others = chain[-1]
        if len(chain) > len(longest) and numbers_agree(view, last, others, level, numbers):
            longest = chain
    return longest


def _paper_of(view, chain):
    level, numbers = chain[0]
    return ShortPaper(view.round, tuple([one for one, _ in chain]), tuple([row for _, row in chain]), sum(numbers),
                      counts_at(view, level, numbers))


def first_short(view):
    """The short paper of the first of the house's own views that has one, or None."""
    for number in range(view.round + 1):
        paper = find_short(earlier_view(view, number))
        if paper is not None:
            return paper
    return None


def find_short_for(view, facts):
    """As find_short, if the facts let a short paper be right."""
    if facts.hearing == "which":
        raise NeedsSums()
    if facts.lamps != 1:
        raise NeedsLamp()
    return find_short(view)


def short_fault(view, paper):
    """The first fault of a paper, judged by a view of the house that made it, or None."""
    if not 0 <= paper.found <= view.round:
        return ShortFault("found", None)
    if not _are_levels(paper):
        return ShortFault("levels", None)
    then = earlier_view(view, paper.found)
    for at, level in enumerate(paper.levels):
        fault = _fault_at(then, paper, at)
        if fault is not None:
            return ShortFault(fault, level)
    fault = _fault_of_all(then, paper)
    return None if fault is None else ShortFault(fault, None)


def _are_levels(paper):
    """Whether the levels ascend within the view of the round, and have as many rows of numbers."""
    least = 0
    for level in paper.levels:
        if not least <= level < paper.found:
            return False
        least = level + 1
    return 0 < len(paper.levels) == len(paper.numbers)


def _fault_at(view, paper, at):
    """The first fault of the level at this place of a paper, or None."""
    level, numbers = paper.levels[at], paper.numbers[at]
    if len(numbers) != len(view.levels[level]) or any([number < 1 for number in numbers]):
        return "numbers"
    fault = still_fault(view, level)
    if fault in ("children", "apart"):
        return fault
    if not are_numbers_balanced(view, level, numbers):
        return "balance"
    if lit_sum(view, level, numbers) != 1:
        return "lamp"
    if at > 0 and not numbers_agree(view, paper.levels[at - 1], paper.numbers[at - 1], level, numbers):
        return "agree"
    return None


def _fault_of_all(view, paper):
    """The first fault of what a paper says of all its levels together, or None."""
    if sum(paper.numbers[0]) != paper.houses:
        return "houses"
    if len(paper.levels) < paper.houses:
        return "few"
    return None if paper.counts == counts_at(view, paper.levels[0], paper.numbers[0]) else "counts"


def find_event(view, level, numbers, row, later):
    """The least node of a still level of which houses get lost while its child keeps no more than its number."""
    check_level(level, 0, view.round - 1)
    for node, number in enumerate(numbers):
        kept = later[view.children(level, node)[0]]
        if row[node] > kept and kept <= number:
            return node
    return None


def events_of(view, paper, rows):
    """The event at each level of a paper, or None, if the houses of a world stand in these rows."""
    return tuple([find_event(view, level, numbers, rows[level], rows[level + 1])
                  for level, numbers in zip(paper.levels, paper.numbers)])
