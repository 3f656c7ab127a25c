"""[11.2] to [11.6] Steps between the levels of a view."""

import itertools
import random

from headsheard.errors import NoLevel
from headsheard.histories import History
from headsheard.nets import Net
from headsheard.steps import step_fault, step_rows
from headsheard.views import View, view_of
from helpers import NO_INTEGERS, HeardCase, as_lists
from made_views import ONE, chain, made_levels
from plain_levels import spun_view
from plain_worlds import plain_step_fault, plain_step_rows, rows_up_to, small_run, true_rows

# The lamp of two houses that are linked with 3 in each round, at round 2 [11.5].
LAMP = View([[(0, 0), (1, 0)], [(0, ((1, (3, 1)),)), (1, ((0, (3, 1)),))], [(1, ((0, (3, 1)),))]])


def stepped(starts, nodes):
    """A view with one round that is looked at and one that holds its nodes together."""
    return View([starts, nodes, [(0, tuple((node, ONE) for node in range(len(nodes))))]])


def sparse_view(source):
    """A view whose nodes hear but one node each, so that there are often several pieces."""
    count = source.randrange(2, 5)
    pairs = {other: at for at in range(0, count - 1, 2) for at, other in ((at, at + 1), (at + 1, at))}
    nodes = [(at, ((pairs.get(at, source.randrange(count)), ONE),)) for at in range(count)]
    return stepped([(0, word) for word in range(count)], nodes)


def some_rows(source, view, level, heads):
    """A row of the level that is near to what stays in sight, and a row of the level behind."""
    behind = [source.randrange(1, 4) for _ in view.levels[level + 1]]
    row = [sum(number for number, (parent, _) in zip(behind, view.levels[level + 1]) if parent == node)
           for node in range(len(view.levels[level]))]
    row = [max(1, number + source.choice((-1, 0, 0, 0, 1, 2))) for number in row]
    return (tuple(row), tuple(behind)) if max(sum(row), sum(behind)) <= heads else None


class StepFaultTest(HeardCase):
    def ask(self, view, level, row, above, heads, told):
        fault = step_fault(view, level, row, above, heads)
        self.assert_same(fault, plain_step_fault(view, level, row, above, heads))
        kind = (fault and fault[0], sum(above) < heads)
        told[kind] = told.get(kind, 0) + 1

    def test_on_drawn_views(self):
        source = random.Random(1101)
        told = {}
        for at in range(1000):
            makers = (lambda: View(made_levels(source, source.randrange(1, 4))), lambda: spun_view(source, 3),
                      lambda: spun_view(source, 3), lambda: sparse_view(source))
            view = makers[at % 4]()
            for level in range(view.round):
                heads = source.randrange(1, 12)
                rows = some_rows(source, view, level, heads)
                if rows:
                    least = max(map(sum, rows))
                    for asked in {heads, least}:
                        self.ask(view, level, *rows, asked, told)
        for _ in range(60):
            view = sparse_view(source)
            row = (source.randrange(1, 3),) * len(view.levels[0])
            for heads in (sum(row), sum(row) + 1):
                self.ask(view, 0, row, row, heads, told)
        for kind in (None, "out", "unlike", "alone", "apart"):
            self.assertTrue(min(told[kind, True], told[kind, False]) > 10, told)
        self.assertGreater(told["less", True], 10)

    def test_on_views_of_small_runs(self):
        source = random.Random(1102)
        told = {}
        for _ in range(120):
            history, facts = small_run(source, most=6, rounds=4)
            house = source.randrange(history.houses)
            view = view_of(history, house)
            true = true_rows(history, house, history.round)
            for level in range(view.round):
                self.assertIsNone(step_fault(view, level, true[level], true[level + 1], history.houses))
                for heads in range(history.houses, history.houses + 3):
                    self.ask(view, level, true[level], true[level + 1], heads, told)
                    rows = some_rows(source, view, level, heads)
                    if rows:
                        self.ask(view, level, *rows, heads, told)
        self.assertTrue(told[None, True] > 30 and told[None, False] > 30 and told["apart", True] > 5, told)

    def test_example(self):
        self.assertIsNone(step_fault(LAMP, 1, (1, 1), (1,), 2))
        self.assertIsNone(step_fault(LAMP, 1, (2, 1), (1,), 3))
        self.assert_same(step_fault(LAMP, 0, (2, 1), (2, 1), 3), ("unlike", 0, 1))

    def test_out_goes_ahead_of_all_and_tells_the_least(self):
        self.assert_same(step_fault(LAMP, 0, (1, 1), (2, 2), 5), ("out", 0))
        self.assert_same(step_fault(LAMP, 0, (2, 1), (2, 2), 5), ("out", 1))
        self.assert_same(step_fault(LAMP, 1, (1, 1), (2,), 5), ("out", 1))

    def test_unlike_tells_the_least_couple(self):
        nodes = [(0, ((1, ONE), (2, ONE))), (1, ((0, ONE), (2, ONE))), (2, ((0, ONE), (1, ONE)))]
        view = stepped([(0, 0), (0, 1), (0, 2)], nodes)
        self.assertIsNone(step_fault(view, 0, (1, 1, 1), (1, 1, 1), 3))
        self.assert_same(step_fault(view, 0, (2, 1, 1), (2, 1, 1), 4), ("unlike", 0, 1))
        self.assert_same(step_fault(view, 0, (1, 2, 1), (1, 2, 1), 4), ("unlike", 0, 1))
        self.assert_same(step_fault(view, 0, (1, 1, 2), (1, 1, 2), 4), ("unlike", 0, 2))

    def test_one_loses_houses_and_the_other_does_not_in_both_directions(self):
        # What the child of node 0 hears of node 1 is 2, what that of node 1 hears of node 0 is 3.
        view = stepped([(0, 0), (0, 1)], [(0, ((1, (2, 1)),)), (1, ((0, (3, 1)),))])
        self.assert_same(step_fault(view, 0, (1, 1), (1, 1), 2), ("unlike", 0, 1))
        self.assert_same(step_fault(view, 0, (1, 2), (1, 1), 3), ("less", 0, 1))
        self.assertIsNone(step_fault(view, 0, (2, 1), (1, 1), 3))
        view = stepped([(0, 0), (0, 1)], [(0, ((1, (3, 1)),)), (1, ((0, (2, 1)),))])
        self.assertIsNone(step_fault(view, 0, (1, 2), (1, 1), 3))
        # Here v is above w.
        self.assert_same(step_fault(view, 0, (2, 1), (1, 1), 3), ("less", 1, 0))
        self.assertIsNone(step_fault(view, 0, (2, 2), (1, 1), 4))

    def test_sums_that_are_alike_leave_nothing_for_those_out_of_sight(self):
        view = stepped([(0, 0), (0, 1)], [(0, ((1, (2, 1)),)), (1, ((0, (2, 1)),))])
        self.assert_same(step_fault(view, 0, (2, 1), (1, 1), 3), ("apart", 0))
        self.assert_same(step_fault(view, 0, (1, 2), (1, 1), 3), ("apart", 0))
        self.assertIsNone(step_fault(view, 0, (2, 2), (1, 1), 4))
        self.assertIsNone(step_fault(view, 0, (1, 1), (1, 1), 2))
        self.assert_same(step_fault(view, 0, (1, 1), (1, 1), 3), ("apart", 0))

    def test_a_couple_of_a_node_with_itself(self):
        view = stepped([(0, 0), (0, 1)], [(0, ((0, ONE), (1, ONE))), (1, ((0, ONE),))])
        self.assertIsNone(step_fault(view, 0, (2, 1), (1, 1), 3))
        self.assert_same(step_fault(view, 0, (1, 2), (1, 1), 3), ("apart", 0))
        alone = View([[(0, 0)], [(0, ((0, ONE),))]])
        self.assertIsNone(step_fault(alone, 0, (2,), (1,), 2))
        self.assert_same(step_fault(alone, 0, (1,), (1,), 2), ("apart", 0))
        self.assertIsNone(step_fault(alone, 0, (1,), (1,), 1))

    def test_pieces_with_all_in_sight(self):
        # Nodes 0 and 1 hear one another, and so do nodes 2 and 3.
        nodes = [(0, ((1, ONE),)), (1, ((0, ONE),)), (2, ((3, ONE),)), (3, ((2, ONE),))]
        starts = [(0, 0), (0, 1), (0, 2), (0, 3)]
        view = stepped(starts, nodes)
        self.assert_same(step_fault(view, 0, (1, 1, 1, 1), (1, 1, 1, 1), 4), ("apart", 2))
        self.assert_same(step_fault(view, 0, (2, 2, 1, 1), (1, 1, 1, 1), 6), ("apart", 2))
        self.assert_same(step_fault(view, 0, (1, 1, 2, 2), (1, 1, 1, 1), 6), ("apart", 0))
        self.assertIsNone(step_fault(view, 0, (2, 2, 2, 2), (1, 1, 1, 1), 8))
        # To hear oneself alone joins nobody to another one.
        view = stepped(starts[:2], [(0, ((0, ONE),)), (1, ((1, ONE),))])
        self.assert_same(step_fault(view, 0, (1, 1), (1, 1), 2), ("apart", 1))
        # Two nodes that hear a third one need not be of one piece.
        view = stepped(starts[:3], [(0, ((2, ONE),)), (1, ((2, ONE),)), (2, ((0, ONE),)), (2, ((1, ONE),))])
        self.assert_same(step_fault(view, 0, (1, 1, 2), (1, 1, 1, 1), 4), ("apart", 1))
        view = stepped(starts[:3], [(0, ((2, ONE),)), (1, ((2, ONE),)), (2, ((0, ONE), (1, ONE)))])
        self.assertIsNone(step_fault(view, 0, (1, 1, 1), (1, 1, 1), 3))

    def test_the_least_node_of_pieces_that_grow(self):
        # Nodes 0 and 2 are of one piece, node 1 is of another one.
        view = stepped([(0, 0), (0, 1), (0, 2)], [(0, ((2, ONE),)), (1, ((1, ONE),)), (2, ((0, ONE),))])
        self.assert_same(step_fault(view, 0, (1, 1, 1), (1, 1, 1), 3), ("apart", 1))
        self.assert_same(step_fault(view, 0, (1, 1, 1), (1, 1, 1), 4), ("apart", 0))
        self.assert_same(step_fault(view, 0, (1, 2, 1), (1, 1, 1), 4), ("apart", 0))
        self.assert_same(step_fault(view, 0, (2, 1, 2), (1, 1, 1), 5), ("apart", 1))
        self.assertIsNone(step_fault(view, 0, (2, 2, 2), (1, 1, 1), 6))

    def test_alone(self):
        view = stepped([(0, 0), (0, 1)], [(0, ((1, ONE),)), (1, ())])
        self.assert_same(step_fault(view, 0, (2, 2), (1, 1), 4), ("alone", 1))
        view = View(chain(2))
        for heads in (2, 3):
            self.assert_same(step_fault(view, 0, (2,), (1,), heads), ("alone", 0))
        # The one house need not be heard by anybody.
        self.assertIsNone(step_fault(view, 0, (1,), (1,), 1))
        self.assertIsNone(step_fault(view, 1, (1,), (1,), 1))

    def test_the_first_in_the_told_order(self):
        # Node 1 of the level behind heard nobody, and nothing balances.
        view = stepped([(0, 0), (0, 1)], [(0, ((1, (2, 1)),)), (1, ())])
        self.assert_same(step_fault(view, 0, (1, 1), (1, 2), 3), ("out", 1))
        self.assert_same(step_fault(view, 0, (1, 1), (1, 1), 3), ("unlike", 0, 1))
        self.assert_same(step_fault(view, 0, (2, 1), (1, 1), 3), ("less", 1, 0))
        self.assert_same(step_fault(view, 0, (1, 2), (1, 1), 3), ("alone", 1))
        three = stepped([(0, 0), (0, 1), (0, 2)], [(0, ((1, (2, 1)), (2, ONE))), (1, ()), (2, ((0, (2, 1)),))])
        # "less" stands behind "unlike", though its places are less.
        self.assert_same(step_fault(three, 0, (2, 1, 1), (1, 1, 1), 4), ("less", 1, 0))
        self.assert_same(step_fault(three, 0, (1, 1, 2), (1, 1, 1), 4), ("unlike", 0, 1))

    def test_a_node_without_a_child(self):
        # Nobody of node 1 stays in sight; node 0 hears of it.
        view = View([[(0, 0), (0, 1)], [(0, ((1, ONE),))]])
        self.assertIsNone(step_fault(view, 0, (1, 1), (1,), 2))
        self.assertIsNone(step_fault(view, 0, (2, 3), (1,), 5))

    def test_great_numbers(self):
        great = 10 ** 29
        nodes = [(0, ((1, (great + 1, great)),)), (1, ((0, (great + 2, great + 1)),))]
        view = stepped([(0, 0), (0, 1)], nodes)
        self.assert_same(step_fault(view, 0, (1, 1), (1, 1), 2), ("unlike", 0, 1))
        self.assert_same(step_fault(view, 0, (2, 1), (1, 1), 3), ("less", 1, 0))
        self.assertIsNone(step_fault(view, 0, (1, 2), (1, 1), 3))

    def test_no_level_goes_ahead_of_all_else(self):
        for level in (2, 3, -1, *NO_INTEGERS):
            for function, args in ((step_fault, ((), (), 0)), (step_rows, ((), 0))):
                self.assert_raises(NoLevel, (level,), function, LAMP, level, *args)
        start = View([[(0, 0)]])
        for level in (0, -1, None):
            self.assert_raises(NoLevel, (level,), step_fault, start, level, (1,), (1,), 1)
            self.assert_raises(NoLevel, (level,), step_rows, start, level, (1,), 1)

    def test_lists_are_taken_and_nothing_changes(self):
        self.assert_same(step_fault(LAMP, 0, [2, 1], [2, 1], 3), ("unlike", 0, 1))
        self.assert_same(step_rows(LAMP, 1, [1], 3), step_rows(LAMP, 1, (1,), 3))
        before = as_lists(LAMP.levels)
        self.assert_unchanged(lambda row, above: step_fault(LAMP, 0, row, above, 3), [2, 1], [2, 1])
        self.assert_unchanged(lambda above: step_rows(LAMP, 0, above, 3), [1, 1])
        self.assertEqual(as_lists(LAMP.levels), before)


class StepRowsTest(HeardCase):
    def test_all_rows_on_drawn_views(self):
        source = random.Random(1103)
        found = {True: 0, False: 0}
        for at in range(300):
            view = View(made_levels(source, source.randrange(1, 4))) if at % 3 == 0 else spun_view(source, 3)
            level = source.randrange(view.round)
            if max(len(view.levels[level]), len(view.levels[level + 1])) > 5:
                continue
            heads = source.randrange(1, 7)
            for above in source.sample(rows_up_to(len(view.levels[level + 1]), heads) or [(1,) * 9], 1):
                rows = step_rows(view, level, above, heads)
                self.assert_same(rows, plain_step_rows(view, level, above, heads))
                found[bool(rows)] += 1
        self.assertGreater(min(found.values()), 30)

    def test_all_rows_on_views_of_small_runs(self):
        source = random.Random(1104)
        found = 0
        for _ in range(60):
            history, _ = small_run(source, most=5, rounds=3)
            view = view_of(history, 0)
            for level in range(view.round):
                for above in rows_up_to(len(view.levels[level + 1]), 5):
                    rows = step_rows(view, level, above, 5)
                    self.assert_same(rows, plain_step_rows(view, level, above, 5))
                    found += len(rows)
        self.assertGreater(found, 200)

    def test_example(self):
        self.assert_same(step_rows(LAMP, 1, (1,), 2), ((1, 1),))
        self.assert_same(step_rows(LAMP, 1, (1,), 3), ((1, 1), (1, 2), (2, 1)))
        self.assert_same(step_rows(LAMP, 0, (2, 1), 3), ())

    def test_more_nodes_than_heads(self):
        self.assert_same(step_rows(LAMP, 1, (1,), 1), ())
        self.assert_same(step_rows(LAMP, 0, (3, 1), 3), ())

    def test_one_house(self):
        self.assert_same(step_rows(View(chain(1)), 0, (1,), 1), ((1,),))
        self.assert_same(step_rows(View(chain(1)), 0, (1,), 4), ())

    def test_wide_levels(self):
        starts = [(lit, word) for lit in range(2) for word in range(4)]
        nodes = [(at, tuple((other, ONE) for other in range(8) if other != at)) for at in range(8)]
        view = stepped(starts, nodes)
        self.assert_same(step_rows(view, 0, (1,) * 8, 8), ((1,) * 8,))
        self.assert_same(step_rows(view, 0, (1,) * 8, 12), plain_eight())
        history = History(starts)
        history.add(Net(8, [(at, other, ONE) for at, other in itertools.combinations(range(8), 2)]))
        self.assert_same(step_rows(view_of(history, 3), 0, (1,), 8), ((1,) * 8,))


def plain_eight():
    """The rows of 8 nodes that hear each other alike, all of which stay in sight once, among 12 houses."""
    # A piece is open if two nodes lose houses; those that lose none hear just as much as is heard of them.
    return tuple(row for row in rows_up_to_twelve() if sum(number > 1 for number in row) >= 2)


def rows_up_to_twelve():
    for more in itertools.product(range(5), repeat=8):
        if sum(more) <= 4:
            yield tuple(number + 1 for number in more)
