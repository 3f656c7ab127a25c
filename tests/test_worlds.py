"""[11.1], [11.6] to [11.10] Worlds of a view."""

import itertools
import random

from headsheard.canon import counts_of_starts, heads_of
from headsheard.errors import NeedsMost, NeedsSums, NoHeads
from headsheard.facts import Facts
from headsheard.histories import History
from headsheard.nets import complete_net, path_net
from headsheard.runs import Run, walk_run
from headsheard.views import View, view_of
from headsheard.worlds import World, counts_of, hidden_starts, rows_at, start_counts, world_fault, world_with
from helpers import NO_INTEGERS, HeardCase, as_lists
from made_views import ONE, chain
from plain_worlds import (
    all_counts, plain_start_counts, plain_step_fault, plain_worlds, rows_up_to, small_run, true_rows, world_couples)
from standings import joined_net, played, some_starts

# The lamp of two houses that are linked with 3 in each round, at rounds 2 and 1 [11.5].
LAMP = View([[(0, 0), (1, 0)], [(0, ((1, (3, 1)),)), (1, ((0, (3, 1)),))], [(1, ((0, (3, 1)),))]])
EARLIER = View([[(0, 0), (1, 0)], [(1, ((0, (3, 1)),))]])
TWO = (((0, 0), 1), ((1, 0), 1))


def plain_world_fault(view, facts, world):
    """The first fault of a world by the words of [11.9], or None."""
    if len(world.rows) != view.round + 1:
        return ("levels", None)
    for level, row in enumerate(world.rows):
        if len(row) != len(view.levels[level]) or min(row, default=1) < 1:
            return ("row", level)
    starts = [start for start, _ in world.counts]
    if starts != sorted(set(starts)) or any(word >= facts.words for _, word in starts) \
            or any(number < 1 for _, number in world.counts):
        return ("counts", None)
    heads = sum(number for _, number in world.counts)
    if heads < 1 or heads > facts.most:
        return ("heads", None)
    for level, row in enumerate(world.rows):
        if sum(row) > heads:
            return ("sight", level)
    if sum(number for (lit, _), number in world.counts if lit) != facts.lamps:
        return ("lamps", None)
    if [dict(world.counts).get(start, 0) for start in view.levels[0]] != list(world.rows[0]):
        return ("seen", 0)
    for level in range(view.round):
        fault = plain_step_fault(view, level, world.rows[level], world.rows[level + 1], heads)
        if fault:
            return (fault[0], level)
    return None


def spoiled(source, world):
    """A World near to this one."""
    rows, counts = [list(row) for row in world.rows], [[start, number] for start, number in world.counts]
    for _ in range(source.randrange(1, 3)):
        kind = source.randrange(9)
        at = source.randrange(len(rows)) if rows else 0
        if kind < 3 and rows and rows[at]:
            rows[at][source.randrange(len(rows[at]))] += source.choice((-1, 1, 2))
        elif kind == 3 and rows:
            rows.pop(at)
        elif kind == 4 and rows:
            rows[at] = rows[at] + [1]
        elif kind == 5 and counts:
            counts[source.randrange(len(counts))][1] += source.choice((-1, 1))
        elif kind == 6 and counts:
            counts.pop()
        elif kind == 7:
            counts.append([(source.randrange(2), source.randrange(4)), 1])
        else:
            counts = counts[::-1]
    return World(rows, counts)


class AllWorldsTest(HeardCase):
    def test_against_a_search_over_all_worlds(self):
        seen = {"none": 0, "one": 0, "many": 0}
        for view, facts in world_couples(1110, 70):
            worlds = plain_worlds(view, facts)
            kept = sorted({(heads, counts) for heads, counts, _ in worlds})
            self.assert_same(counts_of(view, facts), tuple(counts for _, counts in kept))
            for heads in range(1, facts.most + 1):
                chains = [rows for number, _, rows in worlds if number == heads]
                told = tuple(tuple(sorted({chain[level] for chain in chains})) for level in range(view.round + 1))
                self.assert_same(rows_at(view, facts, heads), told)
            for heads in range(1, facts.most + 1):
                for counts in all_counts(facts, heads):
                    rows = [chain for _, other, chain in worlds if other == counts]
                    world = world_with(view, facts, counts)
                    self.assertEqual(world and world.told, (min(rows), counts) if rows else None)
            seen["none" if not worlds else "one" if len(worlds) == 1 else "many"] += 1
        self.assertTrue(min(seen.values()) > 15, seen)

    def test_counts_that_a_row_leaves(self):
        source = random.Random(1111)
        found = 0
        for view, facts in world_couples(1112, 90):
            heads = source.randrange(1, facts.most + 1)
            for row in rows_up_to(len(view.levels[0]), heads + 1):
                told = start_counts(view, row, facts, heads)
                self.assert_same(told, plain_start_counts(view, row, facts, heads))
                found += len(told)
        self.assertGreater(found, 200)

    def test_the_true_numbers_are_a_world(self):
        source = random.Random(1113)
        for at in range(60):
            houses = 8 if at % 20 == 19 else source.randrange(1, 6)
            starts = some_starts(source, houses, 3)
            lamps = source.choice((0, 1, houses))
            if lamps != 1:
                starts = [(int(lamps > 0), word) for _, word in starts]
            run = Run([joined_net(source, houses) for _ in range(6)], starts, Facts(8, lamps, 4))
            nets = run._nets
            for rounds in range(7):
                history = played(starts, nets[:rounds])
                for house in range(houses):
                    world = World(true_rows(history, house, rounds), counts_of_starts(starts))
                    self.assertIsNone(world_fault(run.view_at(house), run.facts, world))
                    self.assertEqual(run.view_at(house).round, rounds)
                    if house == 0 and houses < 5:
                        self.assertIn(world.counts, counts_of(run.view_at(house), run.facts))
                        least = world_with(run.view_at(house), run.facts, world.counts)
                        self.assertTrue(least.rows <= world.rows)
                if rounds < 6:
                    run.step()

    def test_facts_stretch_is_not_looked_at(self):
        for stretch in (1, 5):
            self.assert_same(counts_of(LAMP, Facts(5, stretch=stretch)), (TWO,))

    def test_example(self):
        facts = Facts(5)
        self.assert_same(counts_of(LAMP, facts), (TWO,))
        counts = tuple((((0, 0), number), ((1, 0), 1)) for number in range(1, 5))
        self.assert_same(counts_of(EARLIER, facts), counts)
        self.assert_same(rows_at(EARLIER, facts, 3), (((2, 1),), ((1,),)))
        self.assert_same(rows_at(LAMP, facts, 2), (((1, 1),), ((1, 1),), ((1,),)))
        self.assert_same(rows_at(LAMP, facts, 3), ((), (), ()))
        self.assert_same(rows_at(LAMP, facts, 1), ((), (), ()))
        self.assert_same(world_with(EARLIER, facts, counts[1]).told, (((2, 1), (1,)), counts[1]))
        self.assertIsNone(world_with(LAMP, facts, counts[1]))

    def test_the_least_world_level_by_level(self):
        # A house that is known to stand among three, whose own class may hold two of them.
        view = View([[(0, 0)], [(0, ((0, ONE),))]])
        self.assert_same(world_with(view, Facts(3, 0, 1), (((0, 0), 3),)).told, (((3,), (1,)), (((0, 0), 3),)))
        self.assert_same(rows_at(view, Facts(3, 0, 1), 3), (((3,),), ((1,), (2,), (3,))))
        self.assert_same(rows_at(view, Facts(3, 0, 2), 3), (((2,), (3,)), ((1,), (2,), (3,))))
        self.assertEqual(world_with(view, Facts(3, 0, 2), (((0, 0), 2), ((0, 1), 1))).rows, ((2,), (1,)))


    def test_the_least_row_of_a_level_need_not_stand_over_the_least_row_below(self):
        three = (3, 1)
        view = View([
            [(0, 0), (0, 1), (1, 2)],
            [(0, ((0, three), (1, three))), (1, ((0, three), (1, ONE))), (1, ((1, ONE), (2, ONE))), (2, ((1, ONE),))],
            [(0, ((1, three), (2, ONE))), (1, ((0, three), (3, ONE))), (2, ((0, ONE),)), (3, ((1, ONE),))],
            [(3, ((0, ONE), (1, (1, 2)), (2, ONE), (3, three)))]])
        facts = Facts(6, 1, 3)
        counts = (((0, 0), 2), ((0, 1), 3), ((1, 2), 1))
        rows = [rows for _, told, rows in plain_worlds(view, facts) if told == counts]
        self.assertEqual(min(rows), ((2, 3, 1), (2, 2, 1, 1), (1, 1, 1, 1), (1,)))
        self.assert_same(world_with(view, facts, counts).told, (min(rows), counts))


class EdgesTest(HeardCase):
    def test_round_0(self):
        view = View([[(0, 1)]])
        facts = Facts(3, 1, 2)
        counts = [counts for heads in range(1, 4) for counts in all_counts(facts, heads) if dict(counts).get((0, 1))]
        self.assert_same(counts_of(view, facts), tuple(counts))
        self.assert_same(rows_at(view, facts, 1), ((),))
        self.assert_same(rows_at(view, facts, 3), (((1,), (2,)),))
        self.assert_same(world_with(view, facts, (((0, 1), 2), ((1, 0), 1))).rows, ((2,),))
        self.assertIsNone(world_fault(view, facts, World([[2]], [[[0, 1], 2], [[1, 0], 1]])))

    def test_one_house(self):
        for rounds in range(13):
            view = View([[(1, 0)]] + chain(12)[1:rounds + 1])
            told = tuple(counts for heads in (1, 2, 3) for counts in all_counts(Facts(3), heads))
            self.assert_same(counts_of(view, Facts(3)), ((((1, 0), 1),),) if rounds else told)
            self.assert_same(rows_at(view, Facts(3), 1), (((1,),),) * (rounds + 1))
            self.assertIsNone(world_fault(view, Facts(3), World([[1]] * (rounds + 1), [[(1, 0), 1]])))

    def test_twelve_rounds_and_most_eight(self):
        starts = [(int(house == 2), house % 2) for house in range(8)]
        for net in (path_net(8, (1, 3)), complete_net(8, ONE, echo=(1, 2))):
            history = played(starts, [net] * 12)
            for house in range(8):
                view = view_of(history, house)
                self.assertIn(counts_of_starts(starts), counts_of(view, Facts(8, 1, 4)))
                rows = true_rows(history, house, 12)
                for listed, row in zip(rows_at(view, Facts(8, 1, 4), 8), rows):
                    self.assertIn(row, listed)

    def test_most_one(self):
        self.assert_same(counts_of(View([[(0, 0)]]), Facts(1, 0, 2)), ((((0, 0), 1),),))
        self.assert_same(counts_of(View([[(0, 0)]]), Facts(1, 1, 2)), ())

    def test_views_that_the_facts_do_not_fit(self):
        for facts in (Facts(1), Facts(5, 0), Facts(5, 5), Facts(1, 0)):
            self.assert_same(counts_of(LAMP, facts), ())
            self.assert_same(rows_at(LAMP, facts, 1), ((), (), ()))
        lit = View([[(1, 0), (1, 1)], [(0, ((1, ONE),))]])
        self.assert_same(counts_of(lit, Facts(4, 1, 2)), ())
        self.assert_same(start_counts(lit, (1, 1), Facts(4, 1, 2), 3), ())
        self.assertIsNone(world_with(lit, Facts(4, 1, 2), (((1, 0), 1), ((1, 1), 1))))

    def test_counts_with_starts_that_no_node_shows(self):
        facts = Facts(4, 2, 2)
        hidden = (((0, 0), 2), ((1, 0), 1), ((1, 1), 1))
        self.assertIn(hidden, counts_of(EARLIER, facts))
        self.assert_same(world_with(EARLIER, facts, hidden).told, (((2, 1), (1,)), hidden))
        self.assertIsNone(world_with(EARLIER, facts, (((0, 0), 2), ((1, 1), 2))))
        self.assertIsNone(world_with(EARLIER, facts, (((0, 1), 2), ((1, 0), 2))))
        self.assertIsNone(world_with(EARLIER, facts, (((0, 0), 2), ((1, 0), 2), ((1, 1), 0))[:1]))
        # A start with a word that the facts do not know.
        self.assertIsNone(world_with(EARLIER, Facts(4, 1, 1), (((0, 0), 1), ((0, 3), 1), ((1, 0), 1))))

    def test_start_counts(self):
        facts = Facts(4, 2, 2)
        self.assert_same(start_counts(EARLIER, (1, 1), facts, 4), (
            (((0, 0), 1), ((0, 1), 1), ((1, 0), 1), ((1, 1), 1)),))
        self.assert_same(start_counts(EARLIER, (2, 2), facts, 4), ((((0, 0), 2), ((1, 0), 2)),))
        self.assert_same(start_counts(EARLIER, [3, 2], facts, 4), ())
        self.assert_same(start_counts(EARLIER, (1, 2), facts, 4), ((((0, 0), 1), ((0, 1), 1), ((1, 0), 2)),))
        self.assert_same(start_counts(EARLIER, (1, 2), facts, 2), ())

    def test_a_word_that_the_facts_do_not_know(self):
        view = View([[(0, 0), (0, 2)], [(0, ((1, ONE),))]])
        self.assert_same(start_counts(view, (1, 1), Facts(4, 0, 2), 2), ())
        self.assert_same(counts_of(view, Facts(4, 0, 2)), ())
        self.assert_same(start_counts(view, (1, 1), Facts(4, 0, 3), 2), ((((0, 0), 1), ((0, 2), 1)),))

    def test_level_0_is_ascending_by_starts_and_not_by_kinds_of_starts(self):
        view = View([[(0, 1), (1, 1)], [(0, ((1, ONE),))]])
        self.assert_same(start_counts(view, (1, 1), Facts(4, 2, 2), 4), (
            (((0, 0), 1), ((0, 1), 1), ((1, 0), 1), ((1, 1), 1)),))


class WorldFaultTest(HeardCase):
    def test_against_a_second_reading(self):
        source = random.Random(1120)
        told = {}
        for view, facts in world_couples(1121, 120):
            worlds = plain_worlds(view, facts)
            for heads, counts, rows in source.sample(worlds, min(3, len(worlds))):
                world = World(rows, counts)
                self.assertIsNone(world_fault(view, facts, world))
                for _ in range(4):
                    near = spoiled(source, world)
                    fault = world_fault(view, facts, near)
                    self.assert_same(fault, plain_world_fault(view, facts, near))
                    self.assertEqual(fault is None, (near.heads, near.counts, near.rows) in worlds)
                    told[fault and fault[0]] = told.get(fault and fault[0], 0) + 1
        for kind in (None, "levels", "row", "counts", "heads", "sight", "lamps", "seen", "out"):
            self.assertGreater(told.get(kind, 0), 3, (kind, told))

    def test_each_word_with_its_place(self):
        facts = Facts(5, 1, 2)
        right = ((1, 1), (1, 1), (1,))
        for rows, counts, fault in (
                (right, TWO, None),
                (right[:2], TWO, ("levels", None)),
                (right + ((1,),), TWO, ("levels", None)),
                ((), TWO, ("levels", None)),
                (((1, 1), (1, 1, 1), (0,)), TWO, ("row", 1)),
                (((1, 1), (1, 1), (0,)), TWO, ("row", 2)),
                (((1, -1), (1,), (1,)), TWO, ("row", 0)),
                ((right[0], (1,), (1,)), TWO, ("row", 1)),
                (right, TWO[::-1], ("counts", None)),
                (right, TWO + TWO[1:], ("counts", None)),
                (right, (((0, 0), 1), ((0, 2), 1), ((1, 0), 1)), ("counts", None)),
                (right, (((0, 0), 0), ((1, 0), 1)), ("counts", None)),
                (right, (), ("heads", None)),
                (right, (((0, 0), 5), ((1, 0), 1)), ("heads", None)),
                (((1, 1), (1, 2), (3,)), TWO, ("sight", 1)),
                (((3, 1), (1, 2), (3,)), TWO, ("sight", 0)),
                (right, (((0, 0), 1), ((1, 0), 2)), ("lamps", None)),
                (right, (((0, 0), 2),), ("lamps", None)),
                (right, (((0, 0), 2), ((1, 0), 1)), ("seen", 0)),
                (right, (((0, 1), 1), ((1, 0), 1)), ("seen", 0)),
                (right, (((0, 0), 1), ((1, 1), 1)), ("seen", 0)),
                (((1, 1), (1, 1), (2,)), (((0, 0), 1), ((0, 1), 1), ((1, 0), 1)), ("apart", 0)),
                (((1, 1), (1, 2), (1,)), (((0, 0), 1), ((0, 1), 1), ((1, 0), 1)), ("out", 0)),
                (((2, 1), (2, 1), (1,)), (((0, 0), 2), ((1, 0), 1)), ("unlike", 0)),
                (((2, 1), (1, 1), (1,)), (((0, 0), 2), ((1, 0), 1)), ("apart", 0)),
                (((1, 1), (1, 1), (1,)), (((0, 0), 1), ((0, 1), 1), ((1, 0), 1)), ("apart", 0))):
            with self.subTest(rows=rows, counts=counts):
                self.assert_same(world_fault(LAMP, facts, World(rows, counts)), fault)

    def test_steps_that_are_not_lawful(self):
        four = (((0, 0), 2), ((1, 0), 2))
        self.assert_same(world_fault(LAMP, Facts(5, 2), World(((2, 2), (1, 1), (2,)), four)), ("out", 1))
        self.assertIsNone(world_fault(LAMP, Facts(5, 2), World(((2, 2), (1, 1), (1,)), four)))
        less = View([[(0, 0), (0, 1)], [(0, ((1, (2, 1)),)), (1, ((0, (3, 1)),))],
                     [(0, ((0, ONE), (1, ONE)))]])
        counts = (((0, 0), 1), ((0, 1), 2))
        self.assert_same(world_fault(less, Facts(4, 0, 2), World(((1, 2), (1, 1), (1,)), counts)), ("less", 0))
        alone = View(chain(2))
        two = (((0, 0), 2),)
        self.assert_same(world_fault(alone, Facts(4, 0, 2), World(((2,), (2,), (2,)), two)), ("alone", 0))
        late = View([[(0, 0)], [(0, ((0, ONE),))], [(0, ())]])
        self.assert_same(world_fault(late, Facts(4, 0, 2), World(((2,), (2,), (2,)), two)), ("alone", 1))
        self.assertIsNone(world_fault(late, Facts(4, 0, 2), World(((1,), (1,), (1,)), (((0, 0), 1),))))

    def test_hidden_starts(self):
        source = random.Random(1122)
        found = 0
        for view, facts in world_couples(1123, 60):
            worlds = plain_worlds(view, facts)
            for heads, counts, rows in source.sample(worlds, min(4, len(worlds))):
                hidden = hidden_starts(view, World(rows, counts))
                seen = {start for start in view.levels[0]}
                self.assert_same(hidden, tuple(entry for entry in counts if entry[0] not in seen))
                self.assertEqual(heads_of(hidden), heads - sum(rows[0]))
                found += len(hidden)
        self.assertGreater(found, 40)


class WorldTest(HeardCase):
    def test_attributes(self):
        rows, counts = [[1, 1], [1]], [[[0, 0], 1], [[1, 0], 2]]
        world = World(rows, counts)
        rows[0][0] = 9
        counts.append(1)
        self.assert_same(world.rows, ((1, 1), (1,)))
        self.assert_same(world.counts, (((0, 0), 1), ((1, 0), 2)))
        self.assert_same((world.heads, world.told), (3, (world.rows, world.counts)))
        self.assert_same((World((), ()).heads, World((), ()).told), (0, ((), ())))

    def test_nothing_is_checked(self):
        self.assertEqual(World(((-1,),), (((7, 9), -3),)).heads, -3)

    def test_equality(self):
        world = World(((1, 1), (1,)), TWO)
        self.assertTrue(world == World([[1, 1], [1]], as_lists(TWO)))
        self.assertFalse(world != World(((1, 1), (1,)), TWO))
        for other in (World(((1, 2), (1,)), TWO), World(((1, 1), (1,)), TWO[:1]), world.told, None, 1):
            self.assertFalse(world == other)


class ErrorsTest(HeardCase):
    def calls(self, facts, heads):
        counts = (((0, 0), heads),)
        yield start_counts, (LAMP, (1, 1), facts, heads)
        yield rows_at, (LAMP, facts, heads)
        yield world_with, (LAMP, facts, counts)

    def test_needs_sums_ahead_of_needs_most_ahead_of_no_heads(self):
        others = [(counts_of, lambda facts: (LAMP, facts)),
                  (world_fault, lambda facts: (LAMP, facts, World(((0,),), ())))]
        for facts, error in ((Facts(None, hearing="which"), NeedsSums), (Facts(3, hearing="which"), NeedsSums),
                             (Facts(None), NeedsMost)):
            for heads in (0, 4, 2):
                for function, args in self.calls(facts, heads):
                    self.assert_raises(error, (), function, *args)
            for function, args in others:
                self.assert_raises(error, (), function, *args(facts))

    def test_no_heads(self):
        facts = Facts(3, 1, 2)
        for heads in (0, 4, 12, -1):
            for function, args in self.calls(facts, heads):
                self.assert_raises(NoHeads, (heads,), function, *args)
        for heads in NO_INTEGERS:
            self.assert_raises(NoHeads, (heads,), rows_at, LAMP, facts, heads)
            self.assert_raises(NoHeads, (heads,), start_counts, LAMP, (1, 1), facts, heads)
        self.assert_raises(NoHeads, (0,), world_with, LAMP, facts, ())
        self.assert_raises(NoHeads, (4,), world_with, LAMP, facts, (((0, 0), 3), ((1, 0), 1)))

    def test_nothing_is_changed(self):
        facts = Facts(4, 1, 2)
        levels = as_lists(EARLIER.levels)
        self.assert_unchanged(lambda row: start_counts(EARLIER, row, facts, 3), [1, 1])
        self.assert_unchanged(lambda told: world_fault(EARLIER, facts, World(*told)), [[[1, 1], [1]], as_lists(TWO)])
        self.assert_unchanged(lambda counts: world_with(EARLIER, facts, counts), TWO)
        rows_at(EARLIER, facts, 3)
        counts_of(EARLIER, facts)
        self.assertEqual(as_lists(EARLIER.levels), levels)
        self.assertEqual(facts.told, (4, 1, 2, "sums", 1))


class PlainReadingTest(HeardCase):
    def test_all_counts_are_those_of_all_starts(self):
        facts = Facts(4, 1, 2)
        starts = list(itertools.product(range(2), range(2)))
        lots = {counts_of_starts(lot) for lot in itertools.product(starts, repeat=3) if sum(lit for lit, _ in lot) == 1}
        self.assertEqual(all_counts(facts, 3), sorted(lots))

    def test_histories_of_small_runs_fit_their_facts(self):
        source = random.Random(1124)
        for _ in range(30):
            history, facts = small_run(source)
            self.assertIs(type(history), History)
            self.assertTrue(history.houses <= facts.most)
