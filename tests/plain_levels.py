"""Plain second readings of parts 9 and 10 for the tests, and views with many still levels."""

import itertools
import random
from fractions import Fraction
from math import gcd, lcm

from headsheard.facts import Facts
from headsheard.runs import Run, walk_run
from headsheard.shortpapers import ShortPaper
from headsheard.views import View
from made_views import made_levels, some_views
from standings import joined_net, some_starts


def heard(view, level, child, node):
    """What a node of the level behind heard of a node of the level."""
    return sum((Fraction(*strength) for number, strength in view.levels[level + 1][child][1] if number == node),
               Fraction(0))


def children(view, level, node):
    return [child for child, (parent, _) in enumerate(view.levels[level + 1]) if parent == node]


def forebear(view, level, node, later):
    """The node of the level that a node of a later one comes from."""
    for above in range(later, level, -1):
        node = view.levels[above][node][0]
    return node


def is_lit(view, level, node):
    return view.levels[0][forebear(view, 0, node, level)][0] == 1


def plain_starts(view, level):
    return [view.levels[0][forebear(view, 0, node, level)] for node in range(len(view.levels[level]))]


def null_vectors(rows, width):
    """A base of the vectors that all rows send to zero, by elimination."""
    rows, leads = [list(row) for row in rows], []
    for column in range(width):
        at = next((at for at in range(len(leads), len(rows)) if rows[at][column]), None)
        if at is None:
            continue
        rows[len(leads)], rows[at] = rows[at], rows[len(leads)]
        lead = rows[len(leads)]
        lead[:] = [entry / lead[column] for entry in lead]
        for row in rows:
            if row is not lead and row[column]:
                factor = row[column]
                row[:] = [entry - factor * other for entry, other in zip(row, lead)]
        leads.append(column)
    base = []
    for free in [column for column in range(width) if column not in leads]:
        vector = [Fraction(int(column == free)) for column in range(width)]
        for row, column in zip(rows, leads):
            vector[column] = -row[free]
        base.append(vector)
    return base


def plain_still(view, level):
    """The fault and the least numbers of a level, by the words of [9.2]."""
    nodes = range(len(view.levels[level]))
    lots = [children(view, level, node) for node in nodes]
    if any(len(lot) != 1 for lot in lots):
        return "children", None
    table = {(v, w): heard(view, level, lots[v][0], w) for v in nodes for w in nodes}
    met = {0}
    for _ in nodes:
        met |= {w for v in met for w in nodes if table[v, w] or table[w, v]}
    if len(met) < len(nodes):
        return "apart", None
    rows = []
    for v, w in itertools.combinations(nodes, 2):
        row = [Fraction(0)] * len(nodes)
        row[v], row[w] = table[v, w], -table[w, v]
        rows.append(row)
    base = null_vectors(rows, len(nodes))
    if len(base) != 1 or not (all(entry > 0 for entry in base[0]) or all(entry < 0 for entry in base[0])):
        return "balance", None
    bottom = lcm(*[entry.denominator for entry in base[0]])
    numbers = [abs(int(entry * bottom)) for entry in base[0]]
    return None, tuple(number // gcd(*numbers) for number in numbers)


def plain_numbers(view, level, lamps):
    """The numbers of a still level by [9.4], or None."""
    least = plain_still(view, level)[1]
    lit = least and sum(number for node, number in enumerate(least) if is_lit(view, level, node))
    if not lit:
        return None
    numbers = [Fraction(number * lamps, lit) for number in least]
    return tuple(map(int, numbers)) if all(number.denominator == 1 for number in numbers) else None


def plain_counts(view, level, numbers):
    table = {}
    for start, number in zip(plain_starts(view, level), numbers):
        table[start] = table.get(start, 0) + number
    return tuple(sorted(table.items()))


def plain_agree(view, level, numbers, later, others):
    for node, number in enumerate(numbers):
        lot = [one for one in range(len(view.levels[later])) if forebear(view, level, one, later) == node]
        if not lot or sum(others[one] for one in lot) != number:
            return False
    return True


def plain_short_fault(view, paper):
    """The couple (what, level) of the first fault of a paper by [10.3], or None; `view` is of round `found`."""
    levels, numbers = paper.levels, paper.numbers
    if not levels or list(levels) != sorted(set(levels)) or levels[0] < 0 or levels[-1] > paper.found - 1 \
            or len(numbers) != len(levels):
        return ("levels", None)
    for at, (level, row) in enumerate(zip(levels, numbers)):
        if len(row) != len(view.levels[level]) or min(row) < 1:
            return ("numbers", level)
        fault = plain_still(view, level)[0]
        if fault in ("children", "apart"):
            return (fault, level)
        for v, w in itertools.combinations(range(len(row)), 2):
            one, other = children(view, level, v)[0], children(view, level, w)[0]
            if row[v] * heard(view, level, one, w) != row[w] * heard(view, level, other, v):
                return ("balance", level)
        if sum(number for node, number in enumerate(row) if is_lit(view, level, node)) != 1:
            return ("lamp", level)
        if at and not plain_agree(view, levels[at - 1], numbers[at - 1], level, row):
            return ("agree", level)
    if sum(numbers[0]) != paper.houses:
        return ("houses", None)
    if len(levels) < paper.houses:
        return ("few", None)
    return None if paper.counts == plain_counts(view, levels[0], numbers[0]) else ("counts", None)


def paper_over(view, levels):
    """The only paper over these levels that may be right, or None."""
    numbers = tuple(plain_numbers(view, level, 1) for level in levels)
    if not levels or None in numbers:
        return None
    return ShortPaper(view.round, tuple(levels), numbers, sum(numbers[0]), plain_counts(view, levels[0], numbers[0]))


def right_papers(view):
    """All right papers of the view's round, by a search over all choices of levels."""
    still = [level for level in range(view.round) if plain_numbers(view, level, 1)]
    for many in range(1, len(still) + 1):
        for levels in itertools.combinations(still, many):
            paper = paper_over(view, levels)
            if plain_short_fault(view, paper) is None:
                yield paper


def walk_paper(view):
    """Whether walking from some still level to the next one that agrees finds a right paper."""
    still = [level for level in range(view.round) if plain_numbers(view, level, 1)]
    for first in still:
        levels = [first]
        for level in still:
            if level > first and plain_agree(view, levels[-1], plain_numbers(view, levels[-1], 1), level,
                                             plain_numbers(view, level, 1)):
                levels.append(level)
        if len(levels) >= sum(plain_numbers(view, first, 1)):
            return True
    return False


def low(worth):
    return (worth.numerator, worth.denominator)


def still_step(source, numbers, wrong):
    """Nodes for the level behind: each node has one child, and these numbers balance the level unless it is wrong."""
    count = len(numbers)
    pairs = {(v, w): Fraction(source.randrange(1, 4)) for v, w in itertools.combinations(range(count), 2)}
    if count > 2 and source.randrange(2):
        del pairs[source.choice(sorted(pairs))]
    rows = [{} for _ in range(count)]
    for (v, w), worth in pairs.items():
        rows[v][w], rows[w][v] = worth / numbers[v], worth / numbers[w]
    if wrong and count > 1:
        kind = source.randrange(3)
        if kind == 0:
            rows[0][1] = rows[0].get(1, 0) + 1
        elif kind == 1:
            rows[0].pop(1, None)
        else:
            for node, row in enumerate(rows):
                rows[node] = {other: worth for other, worth in row.items() if node != 0 != other}
    for node in range(count):
        if not source.randrange(3):
            rows[node][node] = Fraction(source.randrange(1, 3))
    return [(node, tuple((other, low(row[other])) for other in sorted(row))) for node, row in enumerate(rows)]


def branching_step(source, count):
    """Nodes for the level behind: one node has two children, or none and is heard by all."""
    twice = source.randrange(count)
    lost = source.randrange(count) if count > 1 and source.randrange(2) else None
    nodes = []
    for node in range(count):
        many = 0 if node == lost else 2 if node == twice else 1
        for at in range(many):
            row = tuple((other, (at + 1, 1)) for other in range(count) if other in (lost, (node + 1) % count))
            nodes.append((node, row))
    return nodes


def parted(source, total, places):
    """So many numbers from 1 on with this sum, if there are any."""
    if total < places:
        return [1] * places
    cuts = sorted(source.sample(range(1, total), places - 1)) if places else []
    return [high - low for low, high in zip([0] + cuts, cuts + [total])] if places else []


def spun_view(source, rounds, lit=1, most=4):
    """A view with many levels that look still; in some of these views their numbers have one sum."""
    total = source.choice((None, 2, 3, 3, 4))
    unlit = source.randrange(0 if lit else 1, 3)
    starts = [(0, word) for word in range(unlit)] + [(1, 0)] * lit
    levels, shining = [starts], [start[0] for start in starts]
    for _ in range(rounds - 1):
        count = len(levels[-1])
        others = parted(source, total, shining.count(0)) if total else [source.randrange(1, 3) for _ in shining]
        numbers = [1 if bright else others.pop() for bright in shining]
        nodes = still_step(source, numbers, not source.randrange(5))
        if not source.randrange(4) and count < most:
            nodes = branching_step(source, count)
        shining = [shining[parent] for parent, _ in nodes]
        levels.append(nodes)
    if rounds:
        count = len(levels[-1])
        levels.append([(source.randrange(count), tuple((node, (1, 1)) for node in range(count)))])
    return View(levels)


def crossing_view(source, rows):
    """A view whose level 0 has the numbers 3 and 1; its later levels, from level 2 on, have these numbers."""
    levels = [[(0, 0), (1, 0)], still_step(source, [3, 1], False)]
    levels.append([(0, ((1, (1, 1)),)), (0, ((1, (2, 1)),)), (1, ((0, (1, 1)),))])
    for numbers in rows:
        levels.append(still_step(source, numbers or [1, 1, 1], numbers is None))
    levels.append([(source.randrange(3), tuple((node, (1, 1)) for node in range(3)))])
    return View(levels)


def crossing_rows(source, many):
    """Rows of numbers most of which agree with 3 and 1, though not with one another; None for what is not still."""
    rows = [parted(source, source.choice((3, 3, 3, 4)), 2) + [1] for _ in range(many)]
    return [row if source.randrange(9) else None for row in rows]


def any_views(seed, many, rounds=7):
    """Views of histories over nets of all kinds, views that no history shows, and views with many still levels."""
    source = random.Random(seed)
    yield from (view for view, _, _, _ in some_views(seed, many, hearings=("sums",)))
    yield from (View(made_levels(source, source.randrange(5))) for _ in range(many))
    yield from (spun_view(source, source.randrange(1, rounds), source.randrange(4) > 0) for _ in range(2 * many))


def joined_runs(seed, many, most=4, rounds=None, words=2):
    """Runs over joined nets with one lamp, played for `rounds(houses)` rounds; each with its source."""
    source = random.Random(seed)
    for _ in range(many):
        houses = source.randrange(1, most + 1)
        last = (rounds or (lambda houses: 3 * houses))(houses)
        strengths = source.choice((((1, 1),), ((1, 1), (1, 2), (3, 1)), ((2, 3), (5, 7), (1, 4), (3, 1))))
        nets = [joined_net(source, houses, strengths) for _ in range(last)]
        if not source.randrange(3):
            nets = [source.choice(nets[:2]) for _ in nets]
        run = Run(nets, some_starts(source, houses, source.randrange(1, words + 1)), Facts(words=4))
        yield run, last


def views_of_run(run, rounds):
    """For each round the views of all houses."""
    rows = [[run.view_at(house) for house in range(run.houses)]]
    for _ in walk_run(run, rounds):
        rows.append([run.view_at(house) for house in range(run.houses)])
    return rows
