"""Worlds: all the numbers of houses with which a view may be shown."""

from headsheard.canon import compositions, heads_of, is_start, is_whole, lit_of, starts_of
from headsheard.errors import NeedsMost, NeedsSums, NoHeads
from headsheard.plain import as_tuples, is_couple
from headsheard.steps import Step, StepShape, step_fault


class World:
    """A row of numbers for each level of a view, and the counts of all houses: a result."""

    def __init__(self, rows, counts):
        self.rows = as_tuples(rows)
        self.counts = as_tuples(counts)
        self.heads = heads_of(self.counts)
        self.told = (self.rows, self.counts)

    def __eq__(self, other):
        return isinstance(other, World) and self.told == other.told


def check_bound(facts):
    """NeedsSums or NeedsMost unless worlds may be asked with these facts."""
    if facts.hearing == "which":
        raise NeedsSums()
    if facts.most is None:
        raise NeedsMost()


def _check_heads(facts, heads):
    check_bound(facts)
    if not is_whole(heads, 1, facts.most):
        raise NoHeads(heads)


def start_counts(view, row, facts, heads):
    """All counts of so many heads that a row of level 0 leaves, ascending."""
    _check_heads(facts, heads)
    seen = tuple(zip(view.levels[0], row))
    if any([start[1] >= facts.words for start, _ in seen]):
        return ()
    unseen = [start for start in starts_of(facts.words) if start not in view.levels[0]]
    lit = [start for start in unseen if start[0] == 1]
    unlit = [start for start in unseen if start[0] == 0]
    lit_left = facts.lamps - lit_of(seen)
    unlit_left = heads - heads_of(seen) - lit_left
    shared = [_with_numbers(unlit, numbers) + _with_numbers(lit, others)
              for numbers in compositions(unlit_left, len(unlit)) for others in compositions(lit_left, len(lit))]
    return tuple(sorted([tuple(sorted(seen + hidden)) for hidden in shared]))


def _with_numbers(starts, numbers):
    """The couples of a start and its number; a start without houses does not stand among them."""
    return tuple([(start, number) for start, number in zip(starts, numbers) if number > 0])


class Walk:
    """All steps down from the last level of a view, level by level, among so many heads."""

    def __init__(self, view, heads):
        lists = [tuple([(number,) for number in range(1, heads + 1)])]
        below = []
        for level in range(view.round - 1, -1, -1):
            shape = StepShape(view, level)
            below.append({above: Step(shape, above, heads).lawful_rows() for above in lists[-1]})
            lists.append(tuple(sorted({row: True for rows in list(below[-1].values()) for row in rows})))
        # For each level the rows from which lawful steps lead up to the last one, ascending.
        self.lists = tuple(lists[::-1])
        # For each level but the last one, and for each row listed above it, the rows of lawful steps to that one.
        self.below = below[::-1]

    def counts_left(self, view, facts, heads):
        """All counts that some row listed for level 0 leaves, each once, ascending."""
        found = {}
        for row in self.lists[0]:
            for counts in start_counts(view, row, facts, heads):
                found[counts] = True
        return tuple(sorted(found))

    def rows_from(self, lowest):
        """For each level the listed rows to which lawful steps lead up from these rows of level 0."""
        kept = [tuple(lowest)]
        for rows_of in self.below:
            met = {row: True for row in kept[-1]}
            kept.append(tuple([above for above in rows_of if any([row in met for row in rows_of[above]])]))
        return tuple(kept)

    def least_path(self, lowest):
        """The least row of each level in turn, up from this one of level 0."""
        path = [lowest]
        for rows_of in self.below:
            path.append(min([above for above in rows_of if path[-1] in rows_of[above]]))
        return tuple(path)


def rows_at(view, facts, heads):
    """For each level all rows that some world with so many heads has there."""
    _check_heads(facts, heads)
    walk = Walk(view, heads)
    return walk.rows_from([row for row in walk.lists[0] if start_counts(view, row, facts, heads)])


def counts_of(view, facts):
    """The counts of all worlds, by heads and then ascending."""
    check_bound(facts)
    found = []
    for heads in range(1, facts.most + 1):
        found.extend(Walk(view, heads).counts_left(view, facts, heads))
    return tuple(found)


def world_with(view, facts, counts):
    """The world with these counts whose rows are the least, from level 0 on; None if there is none."""
    heads = heads_of(counts)
    _check_heads(facts, heads)
    number_of = dict(counts)
    row = tuple([number_of.get(start, 0) for start in view.levels[0]])
    if as_tuples(counts) not in start_counts(view, row, facts, heads):
        return None
    walk = Walk(view, heads)
    return World(walk.least_path(row), counts) if row in walk.lists[0] else None


def world_fault(view, facts, world):
    """What keeps a World from being one of the view, or None."""
    check_bound(facts)
    fault = _form_fault(view, facts, world)
    if fault is None:
        fault = _sum_fault(view, facts, world)
    if fault is not None:
        return fault
    for level in range(view.round):
        unlawful = step_fault(view, level, world.rows[level], world.rows[level + 1], world.heads)
        if unlawful is not None:
            return (unlawful[0], level)
    return None


def _form_fault(view, facts, world):
    if len(world.rows) != view.round + 1:
        return ("levels", None)
    for level, row in enumerate(world.rows):
        if len(row) != len(view.levels[level]) or any([number < 1 for number in row]):
            return ("row", level)
    return None if _are_counts(facts, world.counts) else ("counts", None)


def _are_counts(facts, counts):
    """Whether these are counts of starts with the words of the facts."""
    for at, entry in enumerate(counts):
        if not is_couple(entry) or not is_start(entry[0]) or not is_whole(entry[1], 1):
            return False
        if entry[0][1] >= facts.words or (at > 0 and entry[0] <= counts[at - 1][0]):
            return False
    return True


def _sum_fault(view, facts, world):
    if not 1 <= world.heads <= facts.most:
        return ("heads", None)
    for level, row in enumerate(world.rows):
        if sum(row) > world.heads:
            return ("sight", level)
    if lit_of(world.counts) != facts.lamps:
        return ("lamps", None)
    number_of = dict(world.counts)
    for start, number in zip(view.levels[0], world.rows[0]):
        if number_of.get(start, 0) != number:
            return ("seen", 0)
    return None


def hidden_starts(view, world):
    """The counts of the houses of a world that are out of sight at level 0."""
    return tuple([(start, number) for start, number in world.counts if start not in view.levels[0]])
