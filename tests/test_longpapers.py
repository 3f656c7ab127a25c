"""[12.3] and [12.4] Long papers."""

import random

from headsheard.errors import NeedsMost, NeedsSums, NoWorld
from headsheard.facts import Facts
from headsheard.longpapers import LongPaper, long_fault
from headsheard.sure import find_sure
from headsheard.views import View
from helpers import HeardCase, as_lists
from made_views import chain
from plain_worlds import plain_lists, plain_long_fault, rows_up_to, some_saying, world_couples

LAMP = View([[(0, 0), (1, 0)], [(0, ((1, (3, 1)),)), (1, ((0, (3, 1)),))], [(1, ((0, (3, 1)),))]])
TWO_HEADS = ("same", ((1, -1),), 2)
TRUE = ("most", ((-1, -1),), 0)


def least_paper(view, most):
    return LongPaper(most, [plain_lists(view, heads) for heads in range(1, most + 1)])


def spoiled(source, paper):
    """A paper near to this one: rows left out, added, repeated and put in another order."""
    most, lists = paper.most, as_lists(paper.lists)
    for _ in range(source.randrange(1, 4)):
        kind = source.randrange(8)
        entry = source.choice(lists) if lists else []
        rows = source.choice(entry) if entry else []
        if kind < 2 and rows:
            rows.pop(source.randrange(len(rows)))
        elif kind == 2 and rows:
            rows.append(source.choice(rows))
        elif kind == 3:
            source.shuffle(rows)
        elif kind == 4 and rows:
            rows.append([max(0, number + source.choice((-1, 0, 1))) for number in source.choice(rows)])
        elif kind == 5 and not source.randrange(4):
            source.choice((lists, entry, rows)).append([])
        elif kind == 6 and entry and not source.randrange(4):
            entry.pop()
        elif kind == 7 and not source.randrange(6):
            most += 1
    return LongPaper(most, lists)


def changed(paper, heads, level, rows):
    lists = [list(entry) for entry in paper.lists]
    lists[heads - 1][level] = rows
    return LongPaper(paper.most, lists)


class LongFaultTest(HeardCase):
    def test_against_a_second_reading(self):
        source = random.Random(1200)
        told = {}
        for view, facts in world_couples(1201, 100):
            saying = source.choice((TRUE, some_saying(source, facts.words)))
            paper = least_paper(view, facts.most)
            for given in [paper] + [spoiled(source, paper) for _ in range(8)]:
                fault = long_fault(view, facts, saying, given)
                self.assert_same(fault, plain_long_fault(view, facts, saying, given))
                told[fault and fault[0]] = told.get(fault and fault[0], 0) + 1
        for kind in (None, "most", "levels", "row", "top", "open", "false"):
            self.assertGreater(told.get(kind, 0), 10, (kind, told))

    def test_papers_that_are_returned_list_as_little_as_may_be(self):
        source = random.Random(1202)
        papers = 0
        for view, facts in world_couples(1203, 150):
            saying = source.choice((TRUE, some_saying(source, facts.words)))
            try:
                paper = find_sure(view, facts, saying)
            except NoWorld:
                continue
            if isinstance(paper, LongPaper):
                papers += 1
                self.assert_same(paper.told, least_paper(view, facts.most).told)
                self.assertIsNone(long_fault(view, facts, saying, paper))
        self.assertGreater(papers, 40)

    def test_rows_twice_and_in_any_order_and_more_rows(self):
        facts = Facts(4)
        paper = find_sure(LAMP, facts, TWO_HEADS)
        for level in range(3):
            for heads in range(1, 5):
                rows = paper.lists[heads - 1][level]
                for other in (rows[::-1], rows + rows, rows[1:] + rows[:1]):
                    self.assertIsNone(long_fault(LAMP, facts, TWO_HEADS, changed(paper, heads, level, other)))
        # All rows of the last level are listed; a level below may list more than is asked.
        more = changed(changed(paper, 4, 1, rows_up_to(2, 4)), 4, 0, rows_up_to(2, 4))
        self.assertIsNone(long_fault(LAMP, facts, TRUE, more))
        self.assert_same(long_fault(LAMP, facts, TWO_HEADS, more), ("false", 4, 0))

    def test_each_word_with_its_place(self):
        facts = Facts(3)
        paper = find_sure(LAMP, facts, TWO_HEADS)
        self.assertIsNone(long_fault(LAMP, facts, TWO_HEADS, paper))
        for given, fault in (
                (LongPaper(4, paper.lists), ("most", None, None)),
                (LongPaper(None, paper.lists), ("most", None, None)),
                (LongPaper(3, paper.lists[:2]), ("most", None, None)),
                (LongPaper(3, paper.lists + paper.lists[:1]), ("most", None, None)),
                (LongPaper(3, (paper.lists[0][:2],) + paper.lists[1:]), ("levels", 1, None)),
                (LongPaper(3, paper.lists[:2] + ((),)), ("levels", 3, None)),
                (LongPaper(3, paper.lists[:2] + (paper.lists[2] + ((),),)), ("levels", 3, None)),
                (changed(paper, 2, 0, ((1, 1), (1, 1, 1))), ("row", 2, 0)),
                (changed(paper, 2, 1, ((1, 1), (1,))), ("row", 2, 1)),
                (changed(paper, 3, 1, ((0, 1),)), ("row", 3, 1)),
                (changed(paper, 1, 2, ((1,), (2,))), ("row", 1, 2)),
                (changed(paper, 3, 2, ((1,), (2,), (3,), ())), ("row", 3, 2)),
                (changed(paper, 2, 2, ((2,),)), ("top", 2, 2)),
                (changed(paper, 3, 2, ((1,), (2,))), ("top", 3, 2)),
                (changed(paper, 2, 1, ()), ("open", 2, 1)),
                (changed(paper, 3, 1, ((1, 1), (2, 1))), ("open", 3, 1)),
                (changed(paper, 2, 0, ()), ("open", 2, 0)),
                (changed(paper, 3, 0, ((2, 1),)), ("false", 3, 0))):
            with self.subTest(lists=given.lists):
                self.assert_same(long_fault(LAMP, facts, TWO_HEADS, given), fault)

    def test_the_first_in_the_told_order(self):
        facts = Facts(3)
        paper = find_sure(LAMP, facts, TWO_HEADS)
        # The greatest open level is told, the least level with what is no row, and heads in order.
        both = changed(changed(paper, 2, 1, ()), 2, 0, ())
        self.assert_same(long_fault(LAMP, facts, TWO_HEADS, both), ("open", 2, 1))
        rows = changed(changed(paper, 3, 1, ((9, 9),)), 3, 0, ((0,),))
        self.assert_same(long_fault(LAMP, facts, TWO_HEADS, rows), ("row", 3, 0))
        self.assert_same(long_fault(LAMP, facts, TWO_HEADS, changed(rows, 3, 2, ())), ("row", 3, 0))
        top = changed(changed(paper, 2, 2, ()), 2, 1, ())
        self.assert_same(long_fault(LAMP, facts, ("not", TWO_HEADS), top), ("top", 2, 2))
        late = changed(changed(paper, 2, 0, ()), 1, 2, ())
        self.assert_same(long_fault(LAMP, facts, TWO_HEADS, late), ("top", 1, 2))
        wrong = changed(paper, 3, 0, ())
        self.assert_same(long_fault(LAMP, facts, ("not", TWO_HEADS), wrong), ("false", 2, 0))
        self.assert_same(long_fault(LAMP, facts, TWO_HEADS, changed(late, 1, 0, ((1,),))), ("row", 1, 0))

    def test_open_is_told_where_only_a_further_listed_row_asks_for_it(self):
        facts = Facts(3, 0, 1)
        view = View([[(0, 0)], [(0, ((0, (1, 1)),))], [(0, ((0, (1, 1)),))]])
        paper = least_paper(view, 3)
        self.assertIsNone(long_fault(view, facts, TRUE, paper))
        self.assert_same(long_fault(view, facts, TRUE, changed(paper, 2, 0, ((1,),))), ("open", 2, 0))

    def test_a_view_of_round_0(self):
        view = View([[(1, 0)]])
        paper = find_sure(view, Facts(2), TRUE)
        self.assert_same(paper.told, (2, ((((1,),),), (((1,), (2,)),))))
        self.assertIsNone(long_fault(view, Facts(2), TRUE, paper))
        self.assert_same(long_fault(view, Facts(2), TWO_HEADS, paper), ("false", 1, 0))

    def test_a_paper_of_a_view_without_a_world_is_right(self):
        self.assertIsNone(long_fault(LAMP, Facts(1), TWO_HEADS, least_paper(LAMP, 1)))
        self.assertIsNone(long_fault(LAMP, Facts(3, 0), ("not", TRUE), least_paper(LAMP, 3)))

    def test_errors(self):
        paper = LongPaper(9, ())
        for facts, error in ((Facts(None, hearing="which"), NeedsSums), (Facts(3, hearing="which"), NeedsSums),
                             (Facts(None), NeedsMost)):
            self.assert_raises(error, (), long_fault, LAMP, facts, TRUE, paper)

    def test_nothing_is_changed(self):
        paper = least_paper(View(chain(2)), 3)
        before = paper.told
        long_fault(View(chain(2)), Facts(3), TRUE, paper)
        self.assertEqual((paper.told, paper.most, paper.lists), (before, 3, before[1]))


class LongPaperTest(HeardCase):
    def test_attributes(self):
        lists = [[[[1, 1]], [[1]]]]
        paper = LongPaper(1, lists)
        lists[0][0][0].append(9)
        self.assert_same(paper.lists, ((((1, 1),), ((1,),)),))
        self.assert_same((paper.most, paper.told), (1, (1, paper.lists)))

    def test_equality(self):
        paper = LongPaper(1, ((((1,),),),))
        self.assertTrue(paper == LongPaper(1, [[[[1]]]]))
        for other in (LongPaper(2, ((((1,),),),)), LongPaper(1, ()), paper.told, None):
            self.assertFalse(paper == other)
