"""Still levels: levels of a view that tell how many houses stand at each of their nodes."""

from math import gcd, lcm

from headsheard.canon import is_whole
from headsheard.errors import BadLamps
from headsheard.strengths import NONE, over, times
from headsheard.views import check_level, check_node

MOST_LAMPS = 12


def check_lamps(lamps):
    """BadLamps unless this is a number of lamps that may be told."""
    if not is_whole(lamps, 1, MOST_LAMPS):
        raise BadLamps(lamps)


def _rows_of_children(view, level):
    """For each node what its one child heard of each node; None if some node has not just one child."""
    rows = [None] * len(view.levels[level])
    for parent, heard in view.levels[level + 1]:
        if rows[parent] is not None:
            return None
        rows[parent] = dict(heard)
    return None if None in rows else rows


def _hang_together(rows):
    """Whether all nodes are led to one another, two being linked if the child of one heard of the other."""
    met = {0: True}
    waiting = [0]
    while waiting:
        node = waiting.pop()
        for other in range(len(rows)):
            if other not in met and (other in rows[node] or node in rows[other]):
                met[other] = True
                waiting.append(other)
    return len(met) == len(rows)


def _amounts_along(rows):
    """The only amounts, but for a common factor, that may balance nodes that hang together; None if none may."""
    amounts = {0: (1, 1)}
    waiting = [0]
    while waiting:
        node = waiting.pop()
        for other in range(len(rows)):
            # What is heard one way alone can not be balanced, so it leads nowhere.
            if other not in amounts and other in rows[node] and node in rows[other]:
                amounts[other] = over(times(amounts[node], rows[node][other]), rows[other][node])
                waiting.append(other)
    return [amounts[node] for node in range(len(rows))] if len(amounts) == len(rows) else None


def _are_balanced(rows, amounts):
    """Whether any two unlike nodes hear as much of one another, all their houses together."""
    for other in range(len(rows)):
        for node in range(other):
            if times(amounts[node], rows[node].get(other, NONE)) != times(amounts[other], rows[other].get(node, NONE)):
                return False
    return True


def _least_integers(amounts):
    """The integers without a common divisor that are to one another as the amounts are."""
    bottoms = 1
    for _, bottom in amounts:
        bottoms = lcm(bottoms, bottom)
    numbers = [top * (bottoms // bottom) for top, bottom in amounts]
    divisor = 0
    for number in numbers:
        divisor = gcd(divisor, number)
    return tuple([number // divisor for number in numbers])


def _looked_at(view, level):
    """The fault of a level and its least numbers; one of the two is None."""
    check_level(level, 0, view.round - 1)
    rows = _rows_of_children(view, level)
    if rows is None:
        return "children", None
    if not _hang_together(rows):
        return "apart", None
    amounts = _amounts_along(rows)
    if amounts is None or not _are_balanced(rows, amounts):
        return "balance", None
    return None, _least_integers(amounts)


def still_fault(view, level):
    """What keeps a level from being still, or None."""
    fault, _ = _looked_at(view, level)
    return fault


def least_numbers(view, level):
    """The numbers of a still level without a common divisor, or None."""
    _, numbers = _looked_at(view, level)
    return numbers


def are_numbers_balanced(view, level, numbers):
    """Whether a level each of whose nodes has one child is balanced by these numbers."""
    return _are_balanced(_rows_of_children(view, level), [(number, 1) for number in numbers])


def lit_sum(view, level, numbers):
    """The sum of the numbers of the lit nodes of a level."""
    return sum([number for node, number in enumerate(numbers) if view.start_of(level, node)[0] == 1])


def still_numbers(view, level, lamps=1):
    """The numbers of a still level that give its lit nodes so many lamps together, or None."""
    least = least_numbers(view, level)
    check_lamps(lamps)
    if least is None:
        return None
    lit = lit_sum(view, level, least)
    if lit == 0 or any([number * lamps % lit != 0 for number in least]):
        return None
    return tuple([number * lamps // lit for number in least])


def still_levels(view, lamps=1):
    """The levels that have still numbers."""
    check_lamps(lamps)
    return tuple([level for level in range(view.round) if still_numbers(view, level, lamps) is not None])


def descendants_of(view, level, node, later):
    """The nodes of a later level that are led to a node by taking parents."""
    check_level(level, 0, view.round)
    check_node(view, level, node)
    check_level(later, level, view.round)
    lot = {node: True}
    for above in view.levels[level + 1:later + 1]:
        lot = {child: True for child, (parent, _) in enumerate(above) if parent in lot}
    return tuple(sorted(lot))


def counts_at(view, level, numbers):
    """The counts that the numbers of a level stand for."""
    check_level(level, 0, view.round)
    count_of = {}
    for node, number in enumerate(numbers):
        start = view.start_of(level, node)
        count_of[start] = count_of.get(start, 0) + number
    return tuple([(start, count_of[start]) for start in sorted(count_of)])


def numbers_agree(view, level, numbers, later, others):
    """Whether the number of each node is the sum of the others of its descendants at the later level."""
    check_level(level, 0, view.round)
    check_level(later, level, view.round)
    sums = list(others)
    for at in range(later, level, -1):
        below = [0] * len(view.levels[at - 1])
        for (parent, _), number in zip(view.levels[at], sums):
            below[parent] += number
        sums = below
    return sums == list(numbers)
