"""[10.2] to [10.6] Short papers."""

import random

from headsheard.canon import counts_of_starts
from headsheard.errors import NeedsLamp, NeedsSums, NoLevel
from headsheard.facts import Facts
from headsheard.nets import Net, path_net
from headsheard.runs import Run, history_of, walk_run
from headsheard.shortpapers import (
    ShortFault, ShortPaper, events_of, find_event, find_short, find_short_for, first_short, short_fault)
from headsheard.stopping import latest_round
from headsheard.views import View, earlier_view, seen_classes, unseen_houses
from helpers import NO_INTEGERS, HeardCase
from made_views import ONE, chain
from plain_levels import (
    any_views, children, crossing_rows, crossing_view, joined_runs, paper_over, plain_numbers, plain_short_fault,
    right_papers, spun_view, views_of_run, walk_paper)
from plain_worlds import plain_worlds


def told_fault(view, paper):
    """What short_fault returns, as a couple."""
    fault = short_fault(view, paper)
    if fault is not None:
        assert type(fault) is ShortFault
    return fault and (fault.what, fault.level)


def changed(paper, **told):
    names = ("found", "levels", "numbers", "houses", "counts")
    return ShortPaper(*[told.get(name, getattr(paper, name)) for name in names])


def two_houses(rounds):
    run = Run([Net(2, [(0, 1, (3, 1))])] * rounds, [(1, 0), (0, 0)], Facts())
    list(walk_run(run, rounds))
    return run.view_at(0)


def true_rows(history, house, level):
    """How many houses stand at each node of a house's view, level by level."""
    return tuple(tuple(len(history.classes(at)[number].houses) for number in lot)
                 for at, lot in enumerate(seen_classes(history, house, level)))


class FindShortTest(HeardCase):
    def assert_right(self, view, paper):
        self.assertIs(type(paper), ShortPaper)
        self.assert_tuples(paper.told)
        self.assertEqual(paper.told, (paper.found, paper.levels, paper.numbers, paper.houses, paper.counts))
        self.assertEqual((paper.found, len(paper.levels)), (view.round, paper.houses))
        self.assertIsNone(plain_short_fault(view, paper))
        self.assertIsNone(short_fault(view, paper))

    def ask(self, view):
        """Whether there is a paper; find_short has to find one whenever there is."""
        right = next(right_papers(view), None)
        paper = find_short(view)
        self.assertIs(paper is None, right is None)
        if paper is not None:
            self.assert_right(view, paper)
        return paper is not None

    def test_against_a_search_over_all_choices_of_levels(self):
        told = {True: 0, False: 0}
        for view in any_views(180, 120):
            told[self.ask(view)] += 1
        self.assertTrue(min(told.values()) > 50, told)

    def test_not_only_by_walking_to_the_next_level_that_agrees(self):
        source = random.Random(181)
        told = {}
        for _ in range(200):
            view = crossing_view(source, crossing_rows(source, source.randrange(1, 7)))
            kind = (self.ask(view), walk_paper(view))
            told[kind] = told.get(kind, 0) + 1
        self.assertTrue(told[True, False] > 3 and told[True, True] > 10 and told[False, False] > 10, told)

    def test_a_level_that_has_to_be_left_out(self):
        view = crossing_view(random.Random(191), [[1, 2, 1], [2, 1, 1], [2, 1, 1], [2, 1, 1]])
        self.assertFalse(walk_paper(view))
        self.assert_same((find_short(view).levels, find_short(view).houses), ((0, 3, 4, 5), 4))
        view = crossing_view(random.Random(192), [[1, 2, 1], [2, 1, 1], [2, 1, 1], [1, 2, 1], [1, 2, 1]])
        self.assert_same(find_short(view).levels, (0, 2, 5, 6))

    def test_over_joined_nets(self):
        for run, rounds in joined_runs(182, 25, most=3):
            for row in views_of_run(run, rounds):
                for view in row:
                    self.ask(view)

    def test_one_house(self):
        view = View([[(1, 2)], [(0, ())]])
        self.assert_same(find_short(view).told, (1, (0,), ((1,),), 1, (((1, 2), 1),)))
        self.assertIsNone(find_short(View([[(1, 2)]])))
        self.assertIsNone(find_short(View(chain(5))))

    def test_two_houses(self):
        self.assertIsNone(find_short(two_houses(2)))
        counts = (((0, 0), 1), ((1, 0), 1))
        self.assert_same(find_short(two_houses(3)).told, (3, (0, 1), ((1, 1), (1, 1)), 2, counts))
        paper = find_short(two_houses(9))
        self.assertEqual((paper.found, len(paper.levels), paper.counts), (9, 2, counts))

    def test_numbers_that_are_not_whole(self):
        nodes = [(0, ((1, (3, 1)),)), (1, ((0, (2, 1)),))]
        levels = [[(0, 0), (1, 0)]] + [nodes] * 6 + [[(0, ((1, ONE),))]]
        self.assertIsNone(find_short(View(levels)))

    def test_twelve_houses(self):
        run = Run([path_net(12, ONE)] * 36, [(1, 0)] + [(0, 0)] * 11, Facts())
        list(walk_run(run, 33))
        for house in range(12):
            paper = find_short(run.view_at(house))
            self.assertEqual((paper.houses, paper.counts), (12, run.counts))
            self.assert_right(run.view_at(house), paper)


class FirstShortTest(HeardCase):
    def test_the_first_of_the_own_views_that_has_a_paper(self):
        found = 0
        for view in any_views(183, 40):
            papers = [find_short(earlier_view(view, level)) for level in range(view.round + 1)]
            papers = [paper for paper in papers if paper is not None]
            first = first_short(view)
            found += bool(papers)
            self.assertEqual(first and first.found, papers[0].found if papers else None)
            if first:
                self.assertIsNone(short_fault(view, first))
        self.assertGreater(found, 20)

    def test_round_0(self):
        self.assertIsNone(first_short(View([[(1, 0)]])))

    def test_an_earlier_view_may_have_one(self):
        levels = [[(1, 0)], [(0, ())], [(0, ()), (0, ((0, ONE),))], [(0, ((1, ONE),))]]
        self.assertEqual(first_short(View(levels)).found, 1)
        both = [[(1, 0)], [(0, ()), (0, ((0, ONE),))], [(0, ((1, ONE),))]]
        self.assertIsNone(find_short(View(both)))
        self.assertEqual(first_short(View(both)).told, (1, (0,), ((1,),), 1, (((1, 0), 1),)))


class FindShortForTest(HeardCase):
    def test_as_find_short(self):
        for view in (two_houses(3), two_houses(1), View([[(1, 0)], [(0, ())]])):
            for facts in (Facts(), Facts(2, 1, 4), Facts(stretch=3)):
                self.assertEqual(find_short_for(view, facts), find_short(view))

    def test_errors(self):
        for lamps in (0, 1, 2):
            self.assert_raises(NeedsSums, (), find_short_for, two_houses(3), Facts(lamps=lamps, hearing="which"))
        for lamps in (0, 2, 12):
            self.assert_raises(NeedsLamp, (), find_short_for, two_houses(3), Facts(lamps=lamps))


class ShortFaultTest(HeardCase):
    def setUp(self):
        self.view = two_houses(5)
        counts = (((0, 0), 1), ((1, 0), 1))
        self.paper = ShortPaper(5, (0, 1, 3), ((1, 1),) * 3, 2, counts)

    def assert_fault(self, what, level, **told):
        paper = changed(self.paper, **told)
        self.assertEqual(told_fault(self.view, paper), (what, level))
        if what != "found":
            self.assertEqual(plain_short_fault(earlier_view(self.view, paper.found), paper), (what, level))

    def test_a_right_paper(self):
        self.assertIsNone(short_fault(self.view, self.paper))
        self.assertIsNone(short_fault(self.view, changed(self.paper, levels=(0, 1), numbers=((1, 1),) * 2)))

    def test_found(self):
        for found in (-1, 6, 10 ** 9):
            self.assert_fault("found", None, found=found)
            self.assert_fault("found", None, found=found, levels=(), houses=0)
        self.assertIsNone(short_fault(self.view, changed(self.paper, found=4, levels=(0, 1, 2))))

    def test_levels(self):
        for levels in ((), (1, 0, 3), (0, 1, 1), (0, 0, 1), (-1, 0, 1), (0, 1, 5), (0, 1), (0, 1, 2, 3)):
            self.assert_fault("levels", None, levels=levels)
        for numbers in ((), ((1, 1),), ((1, 1),) * 4):
            self.assert_fault("levels", None, numbers=numbers)
        self.assert_fault("levels", None, found=0, levels=(0,), numbers=((1,),))
        self.assert_fault("levels", None, levels=(), numbers=())
        self.assert_fault("levels", None, found=3, houses=7)

    def test_numbers(self):
        for row in ((), (1,), (1, 1, 1), (1, 0), (-1, 1), (0, 0)):
            self.assert_fault("numbers", 1, numbers=((1, 1), row, (1, 1)))
        self.assert_fault("numbers", 0, numbers=((1,), (1, 0), (1, 1)))

    def test_balance_lamp_and_agree(self):
        self.assert_fault("balance", 1, numbers=((1, 1), (2, 1), (1, 1)))
        self.assert_fault("lamp", 1, numbers=((1, 1), (2, 2), (1, 1)))
        self.assert_fault("lamp", 0, numbers=((2, 2), (2, 2), (2, 2)))

    def test_agree(self):
        source = random.Random(184)
        tried = 0
        for _ in range(200):
            view = crossing_view(source, crossing_rows(source, 6))
            still = [level for level in range(view.round) if plain_numbers(view, level, 1)]
            paper = paper_over(view, tuple(still))
            if paper is None:
                continue
            fault = plain_short_fault(view, paper)
            tried += fault is not None and fault[0] == "agree"
            self.assertEqual(told_fault(view, paper), fault)
        self.assertGreater(tried, 50)

    def test_children_and_apart(self):
        run = Run([path_net(3, ONE)] * 6, [(1, 0), (0, 0), (0, 0)], Facts())
        list(walk_run(run, 6))
        self.view = run.view_at(0)
        self.paper = ShortPaper(6, (0,), ((2, 1),), 3, (((0, 0), 2), ((1, 0), 1)))
        self.assert_fault("children", 0)
        self.assert_fault("children", 5, levels=(1, 5), numbers=((1, 1, 1), (9, 9)))
        nodes = [(0, ()), (1, ())]
        self.view = View([[(0, 0), (1, 0)], nodes, [(0, ((1, ONE),))]])
        self.paper = ShortPaper(2, (0, 1), ((1, 2), (0, 0)), 0, None)
        self.assert_fault("apart", 0)

    def test_houses_few_and_counts(self):
        for houses in (1, 3, 0, -2):
            self.assert_fault("houses", None, houses=houses)
            self.assert_fault("houses", None, houses=houses, counts=())
        self.assert_fault("few", None, levels=(3,), numbers=((1, 1),))
        self.assert_fault("few", None, levels=(3,), numbers=((1, 1),), counts=())
        for counts in ((), (((0, 0), 2),), (((1, 0), 1), ((0, 0), 1)), (((0, 0), 1), ((1, 0), 2)), ("a",)):
            self.assert_fault("counts", None, counts=counts)

    def test_several_faults_at_once(self):
        self.assert_fault("numbers", 0, numbers=((1,), (2, 2), (2, 1)), houses=1, counts=())
        self.assert_fault("lamp", 0, numbers=((2, 2), (2, 1), ()), houses=1)
        self.assert_fault("balance", 0, numbers=((2, 1), (2, 2), ()), houses=1)
        self.assert_fault("houses", None, levels=(0,), numbers=((1, 1),), houses=9, counts=())

    def test_papers_with_one_thing_changed(self):
        source = random.Random(185)
        kinds = set()
        crossing = [crossing_view(source, crossing_rows(source, 5)) for _ in range(60)]
        for view in list(any_views(186, 60)) + crossing:
            still = [level for level in range(view.round) if plain_numbers(view, level, 1)]
            if not still:
                continue
            levels = sorted(source.sample(still, source.randrange(1, len(still) + 1)))
            for _ in range(8):
                told = list(paper_over(view, tuple(levels)).told)
                for _ in range(source.randrange(3)):
                    at = source.randrange(5)
                    told[at] = self.other_entry(source, at, told[at], view)
                paper = ShortPaper(*told)
                if not 0 <= paper.found <= view.round:
                    expected = ("found", None)
                else:
                    expected = plain_short_fault(earlier_view(view, paper.found), paper)
                kinds.add(expected and expected[0])
                self.assertEqual(told_fault(view, paper), expected)
        self.assertLessEqual({None, "found", "levels", "numbers", "children", "balance", "lamp", "agree", "houses",
                              "few", "counts"}, kinds)

    def other_entry(self, source, at, entry, view):
        if at in (0, 3):
            return entry + source.choice((-1, 1))
        if at == 4:
            return source.choice(((), entry[:-1], tuple((start, count + 1) for start, count in entry)))
        entry = list(entry)
        place = source.randrange(len(entry))
        if at == 1:
            entry[place] = source.randrange(-1, view.round + 1)
        else:
            row = list(entry[place]) or [1]
            row[source.randrange(len(row))] += source.choice((-1, 1, 1))
            entry[place] = source.choice((tuple(row), tuple(number * 2 for number in row), tuple(row[:-1])))
        return tuple(entry)

    def test_nothing_passed_in_is_changed(self):
        told = self.paper.told
        short_fault(self.view, self.paper)
        self.assertEqual((self.paper.told, self.view), (told, two_houses(5)))


class RightPapersTest(HeardCase):
    def test_a_right_paper_tells_the_truth_and_stays_right(self):
        papers = 0
        for run, rounds in joined_runs(187, 40, rounds=lambda houses: 3 * houses + 1, words=4):
            rows = views_of_run(run, rounds)
            for house in range(run.houses):
                for number in range(rounds + 1):
                    paper = find_short(rows[number][house])
                    if paper is None:
                        self.assertLess(number, latest_round(run.houses))
                        continue
                    papers += 1
                    self.assertEqual((paper.houses, paper.counts), (run.houses, counts_of_starts(run.starts)))
                    for later in range(number, rounds + 1):
                        self.assertIsNone(short_fault(rows[later][house], paper))
        self.assertGreater(papers, 100)


class EventsTest(HeardCase):
    def test_find_event_against_its_words(self):
        source = random.Random(188)
        told = {True: 0, False: 0}
        for view in any_views(189, 40):
            for level in range(view.round):
                if plain_numbers(view, level, 1) is None:
                    continue
                for _ in range(4):
                    numbers, row = ([source.randrange(1, 4) for _ in view.levels[level]] for _ in range(2))
                    later = [source.randrange(1, 4) for _ in view.levels[level + 1]]
                    expected = None
                    for node in reversed(range(len(numbers))):
                        kept = later[children(view, level, node)[0]]
                        if row[node] > kept and not kept > numbers[node]:
                            expected = node
                    told[expected is None] += 1
                    self.assertEqual(find_event(view, level, numbers, row, later), expected)
                    self.assertEqual(find_event(view, level, tuple(numbers), tuple(row), tuple(later)), expected)
        self.assertTrue(min(told.values()) > 50)

    def test_edges(self):
        view = View([[(0, 0), (1, 0)], [(0, ((1, ONE),)), (1, ((0, ONE),))], [(0, ((1, ONE),))]])
        self.assertEqual(find_event(view, 0, (1, 1), (2, 2), (1, 1)), 0)
        self.assertEqual(find_event(view, 0, (1, 1), (1, 2), (1, 1)), 1)
        self.assertEqual(find_event(view, 0, (1, 1), (3, 2), (2, 1)), 1)
        self.assertEqual(find_event(view, 0, (2, 1), (3, 2), (2, 1)), 0)
        self.assertIsNone(find_event(view, 0, (1, 1), (1, 1), (1, 1)))
        for thing in NO_INTEGERS + (-1, 2):
            self.assert_raises(NoLevel, (thing,), find_event, view, thing, (1, 1), (1, 1), (1, 1))

    def test_events_of_papers_in_true_worlds(self):
        empty = full = 0
        paths = [(Run([path_net(houses, ONE)] * 9, [(1, 0)] + [(0, 0)] * (houses - 1), Facts()), 9)
                 for houses in range(2, 10)]
        for run, rounds in paths + list(joined_runs(190, 12, most=5, rounds=lambda houses: 2 * houses + 2)):
            rows = views_of_run(run, rounds)
            history = history_of(run)
            for number, row in enumerate(rows):
                for house, view in enumerate(row):
                    for paper in self.papers(view):
                        world = true_rows(history, house, number)
                        events = events_of(view, paper, world)
                        self.assertIsInstance(events, tuple)
                        self.assertEqual(len(events), len(paper.levels))
                        for level, numbers, event in zip(paper.levels, paper.numbers, events):
                            self.assertEqual(event, find_event(view, level, numbers, world[level], world[level + 1]))
                            out_of_sight = bool(unseen_houses(history, house, number, level + 1))
                            self.assertIs(event is None, not out_of_sight)
                            if event is None:
                                self.assertEqual(numbers, world[level])
                        full += len([event for event in events if event is not None])
                        empty += events.count(None)
                        self.assertLess(len([event for event in events if event is not None]), run.houses)
        self.assertTrue(empty > 100 and full > 20, (empty, full))

    def test_events_of_papers_in_all_worlds(self):
        source = random.Random(193)
        told = {"empty": 0, "full": 0, "right": 0}
        views = [spun_view(source, source.randrange(2, 5)) for _ in range(250)]
        for run, rounds in joined_runs(194, 12, most=3, rounds=lambda houses: houses + 2):
            views += [view for row in views_of_run(run, rounds) for view in row[:1]]
        for view in views:
            papers = list(self.papers(view))
            if not papers or max(len(level) for level in view.levels) > 3:
                continue
            for heads, counts, rows in plain_worlds(view, Facts(5, 1, 4)):
                for paper in papers:
                    events = events_of(view, paper, rows)
                    for level, numbers, event in zip(paper.levels, paper.numbers, events):
                        self.assertIs(event is None, sum(rows[level + 1]) == heads)
                        if event is None:
                            self.assertEqual(numbers, rows[level])
                        told["full" if event is not None else "empty"] += 1
                    self.assertLess(len([event for event in events if event is not None]), paper.houses)
                    # A right paper has some level without an event, so it tells the truth in each world.
                    if plain_short_fault(view, paper) is None:
                        self.assertEqual((paper.houses, paper.counts), (heads, counts))
                        told["right"] += 1
        self.assertTrue(min(told.values()) > 30, told)

    def papers(self, view):
        """Papers over rows of levels that agree, without a fault or with "few" alone."""
        still = [level for level in range(view.round) if plain_numbers(view, level, 1)]
        for at in range(len(still)):
            levels = []
            for level in still[at:]:
                fault = plain_short_fault(view, paper_over(view, tuple(levels) + (level,)))
                levels += [level] if fault is None or fault[0] == "few" else []
            paper = paper_over(view, tuple(levels))
            yield paper
            if len(levels) > 2:
                yield paper_over(view, tuple(levels[:1] + levels[2:]))


class ResultsTest(HeardCase):
    def test_results_keep_what_they_are_given(self):
        given = (None, [1], {2: 3}, "a", 5)
        paper = ShortPaper(*given)
        for kept, thing in zip((paper.found, paper.levels, paper.numbers, paper.houses, paper.counts), given):
            self.assertIs(kept, thing)
        self.assertEqual(paper.told, given)
        fault = ShortFault(given[1], given[2])
        self.assertIs(fault.what, given[1])
        self.assertIs(fault.level, given[2])

    def test_equality(self):
        told = (3, (0, 1), ((1, 1), (1, 1)), 2, ())
        self.assertIs(ShortPaper(*told) == ShortPaper(*told), True)
        self.assertIs(ShortPaper(*told) != ShortPaper(*told), False)
        for at in range(5):
            self.assertIs(ShortPaper(*told) == ShortPaper(*told[:at], 9, *told[at + 1:]), False)
        self.assertIs(ShortPaper(*told) == told, False)
        self.assertIs(ShortFault("few", None) == ShortFault("few", None), True)
        self.assertIs(ShortFault("few", None) == ShortFault("few", 0), False)
        self.assertIs(ShortFault("few", None) == ShortFault("houses", None), False)
        self.assertIs(ShortFault("few", None) == ("few", None), False)
        self.assertIs(ShortFault("few", None) == ShortPaper(*told), False)
