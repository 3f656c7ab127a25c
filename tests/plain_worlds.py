"""Plain second readings of parts 11 and 12 for the tests, and views with facts to ask for worlds."""

import itertools
import random
from fractions import Fraction

from headsheard.canon import counts_of_starts
from headsheard.facts import Facts
from headsheard.histories import History
from headsheard.views import View, seen_classes, view_of
from made_views import made_levels
from plain_levels import children, heard, spun_view
from standings import joined_net

STRENGTHS = (((1, 1),), ((1, 1), (1, 2), (3, 1)), ((2, 3), (5, 7), (1, 4), (3, 1)))


def used_by(view, level, node):
    """The couples that a node of the level behind uses, each as a frozen set."""
    parent, row = view.levels[level + 1][node]
    return {frozenset((parent, other)) for other, _ in row}


def piece_of(view, level, node):
    """The nodes of one piece with this one."""
    lot = {node}
    for _ in view.levels[level + 1]:
        for one, other in itertools.permutations(range(len(view.levels[level + 1])), 2):
            if one in lot and used_by(view, level, one) & used_by(view, level, other):
                lot.add(other)
    return lot


def out_of(view, level, row, above, node):
    return row[node] - sum(above[child] for child in children(view, level, node))


def flow(view, level, above, node, other):
    """K(node, other)."""
    return sum((above[child] * heard(view, level, child, other) for child in children(view, level, node)), Fraction(0))


def plain_step_fault(view, level, row, above, heads):
    """The first fault of a step by the words of [11.3] and [11.4], or None."""
    nodes = range(len(view.levels[level]))
    later = range(len(view.levels[level + 1]))
    out = [out_of(view, level, row, above, node) for node in nodes]
    table = {(v, w): flow(view, level, above, v, w) for v in nodes for w in nodes}

    def is_open(couple):
        v, w = min(couple), max(couple)
        if v == w:
            return out[v] > 0
        return (out[v] > 0 and out[w] > 0 or out[v] > 0 and out[w] == 0 and table[w, v] > table[v, w]
                or out[w] > 0 and out[v] == 0 and table[v, w] > table[w, v])

    faults = [("out", v) for v in nodes if out[v] < 0]
    faults += [("unlike", v, w) for v, w in itertools.combinations(nodes, 2)
               if out[v] == out[w] == 0 and table[v, w] != table[w, v]]
    faults += [("less", v, w) for v, w in itertools.product(nodes, nodes)
               if out[v] == 0 and out[w] > 0 and table[v, w] < table[w, v]]
    faults += [("alone", x) for x in later if heads > 1 and not view.levels[level + 1][x][1]]
    for x in later:
        piece = piece_of(view, level, x)
        if sum(above) < heads:
            if not any(is_open(couple) for y in piece for couple in used_by(view, level, y)):
                faults.append(("apart", x))
        elif 0 not in piece:
            faults.append(("apart", x))
    return faults[0] if faults else None


def rows_up_to(places, heads):
    """All rows of so many numbers from 1 on with a sum up to `heads`, ascending."""
    return [row for row in itertools.product(range(1, heads + 1), repeat=places) if sum(row) <= heads]


def plain_step_rows(view, level, above, heads):
    return tuple(row for row in rows_up_to(len(view.levels[level]), heads)
                 if plain_step_fault(view, level, row, above, heads) is None)


def all_counts(facts, heads):
    """All counts of so many houses that fit the facts, ascending."""
    starts = [(lit, word) for lit in range(2) for word in range(facts.words)]
    lots = itertools.combinations_with_replacement(starts, heads)
    return sorted(counts_of_starts(lot) for lot in lots if sum(start[0] for start in lot) == facts.lamps)


def plain_start_counts(view, row, facts, heads):
    wanted = dict(zip(view.levels[0], row))
    return tuple(counts for counts in all_counts(facts, heads)
                 if all(dict(counts).get(start, 0) == number for start, number in wanted.items()))


def plain_worlds(view, facts):
    """All worlds as tuples (heads, counts, rows), by a search over all rows, from level 0 up."""
    worlds = []
    for heads in range(1, facts.most + 1):
        chains = [(row,) for row in rows_up_to(len(view.levels[0]), heads)]
        for level in range(view.round):
            behind = rows_up_to(len(view.levels[level + 1]), heads)
            lawful = {pair: plain_step_fault(view, level, *pair, heads) is None
                      for pair in itertools.product({chain[-1] for chain in chains}, behind)}
            chains = [chain + (row,) for chain in chains for row in behind if lawful[chain[-1], row]]
        for chain in chains:
            worlds += [(heads, counts, chain) for counts in plain_start_counts(view, chain[0], facts, heads)]
    return sorted(worlds)


def small_run(source, most=4, rounds=4, words=3):
    """A history of joined nets over a few houses, and facts that fit it."""
    houses = source.randrange(1, most + 1)
    lamps = source.choice((0, 1, 1, min(2, houses)))
    starts = [(int(at < lamps), source.randrange(words)) for at in range(houses)]
    source.shuffle(starts)
    strengths = source.choice(STRENGTHS)
    history = History(starts)
    for _ in range(source.randrange(rounds + 1)):
        history.add(joined_net(source, houses, strengths))
    facts = Facts(source.randrange(houses, most + 1), lamps, words)
    return history, facts


def true_rows(history, house, level):
    """How many houses stand at each node of a house's view, level by level."""
    return tuple(tuple(len(history.classes(at)[number].houses) for number in lot)
                 for at, lot in enumerate(seen_classes(history, house, level)))


def run_couples(seed, many, most=4, rounds=4, words=3):
    """Couples (view, facts) of houses of small runs."""
    source = random.Random(seed)
    for _ in range(many):
        history, facts = small_run(source, most, rounds, source.randrange(1, words + 1))
        yield view_of(history, source.randrange(history.houses)), facts


def drawn_couples(seed, many, most=4):
    """Couples (view, facts) of small views that no history need show."""
    source = random.Random(seed)
    for at in range(many):
        view = View(made_levels(source, source.randrange(4))) if at % 2 else spun_view(source, source.randrange(1, 4))
        if max(len(level) for level in view.levels) > most:
            continue
        lit = sum(start[0] for start in view.levels[0])
        told = source.randrange(1, most + 1)
        yield view, Facts(told, min(told, lit + source.randrange(2)), 4)


def world_couples(seed, many):
    """Couples (view, facts) of both kinds."""
    yield from run_couples(seed, many)
    yield from drawn_couples(seed + 1, many)


def true_of(saying, counts):
    """Whether a saying is true, by the words of [15.2]."""
    kind, inner = saying[0], saying[1]
    if kind == "not":
        return not true_of(inner, counts)
    if kind in ("and", "or"):
        truths = [true_of(part, counts) for part in inner]
        return all(truths) if kind == "and" else any(truths)
    worth = sum(factor * sum(number for start, number in counts if word in (-1, start[1])) for factor, word in inner)
    return worth <= saying[2] if kind == "most" else worth == saying[2]


def some_saying(source, words, depth=2):
    """A saying of few words and small numbers, so that it is often true and often false."""
    if depth > 1 and source.randrange(3) == 0:
        kind = source.choice(("not", "and", "or"))
        if kind == "not":
            return (kind, some_saying(source, words, depth - 1))
        return (kind, tuple(some_saying(source, words, depth - 1) for _ in range(source.randrange(1, 4))))
    terms = tuple((source.choice((-2, -1, 1, 1, 2)), source.randrange(-1, words)) for _ in range(source.randrange(1, 3)))
    return (source.choice(("most", "same")), terms, source.randrange(-1, 5))


def plain_lists(view, heads):
    """The least closed lists for so many heads by the words of [12.3]."""
    lists = [tuple((number,) for number in range(1, heads + 1))]
    for level in range(view.round - 1, -1, -1):
        rows = rows_up_to(len(view.levels[level]), heads)
        lists.append(tuple(row for row in rows
                           if any(plain_step_fault(view, level, row, above, heads) is None for above in lists[-1])))
    return tuple(lists[::-1])


def plain_long_fault(view, facts, saying, paper):
    """The first fault of a long paper by the words of [12.4], or None."""
    if paper.most != facts.most or len(paper.lists) != facts.most:
        return ("most", None, None)
    for heads, lists in enumerate(paper.lists, 1):
        if len(lists) != view.round + 1:
            return ("levels", heads, None)
        for level, rows in enumerate(lists):
            places = len(view.levels[level])
            if any(len(row) != places or min(row, default=1) < 1 or sum(row) > heads for row in rows):
                return ("row", heads, level)
        if {(number,) for number in range(1, heads + 1)} - set(lists[-1]):
            return ("top", heads, view.round)
        for level in range(view.round - 1, -1, -1):
            for row in rows_up_to(len(view.levels[level]), heads):
                if row not in lists[level] and any(plain_step_fault(view, level, row, above, heads) is None
                                                   for above in lists[level + 1]):
                    return ("open", heads, level)
        for row in lists[0]:
            if not all(true_of(saying, counts) for counts in plain_start_counts(view, row, facts, heads)):
                return ("false", heads, 0)
    return None
