"""[7.1] and [7.5] to [7.10] Houses."""

import copy
import random

from headsheard.datatext import data_text, read_data
from headsheard.errors import (
    BadFacts, BadStart, BadStrength, BadView, HeadError, NotOneRound, WrongFacts, WrongLetter)
from headsheard.facts import Facts
from headsheard.houses import House
from headsheard.letters import check_letter, letter_of
from headsheard.nets import Net
from headsheard.strengths import plus
from headsheard.stretches import stretched
from headsheard.views import View, view_of
from helpers import NO_INTEGERS, NO_SEQUENCES, HeardCase, as_lists
from made_views import ONE, chain
from standings import HEARINGS, in_parts, joined_net, played, some_nets, some_starts


def told_letters(houses, net, house):
    """The couples (letter, strength) that a house hears over the links of a net."""
    letters = [one.letter() for one in houses]
    return [(letters[other], strength) for other, strength in net.heard_by(house)]


def lay(houses, net, change=list):
    """One round for all houses; what each hears goes through `change`."""
    told = [change(told_letters(houses, net, house)) for house in range(len(houses))]
    for house, letters in zip(houses, told):
        house.hear(letters)


def state_of(house):
    return (house.start, house.facts.told, house.view.levels, house.round, house.amid, house.waiting)


def some_games(seed, many, rounds=8):
    """Starts, nets and facts to play with, with stretches of one to three rounds and either hearing."""
    source = random.Random(seed)
    for at in range(many):
        houses = source.randrange(1, 5)
        starts = some_starts(source, houses)
        facts = Facts(source.choice((None, houses, 12)), 1, 2, HEARINGS[at % 2], at % 3 + 1)
        yield starts, some_nets(source, houses, source.randrange(rounds)), facts


class PlayTest(HeardCase):
    def test_example_of_the_document(self):
        other = House((0, 0), Facts())
        letter = House((1, 0), Facts()).letter()
        self.assert_same(letter, ((0, 1, 1, "sums", 1), (((1, 0),),)))
        other.hear([(letter, (3, 1))])
        self.assert_same(other.view.levels, (((0, 0), (1, 0)), ((0, ((1, (3, 1)),)),)))

    def test_a_house_ahead_of_round_1(self):
        for start in ((1, 1), [1, 1]):
            facts = Facts(words=2)
            house = House(start, facts)
            self.assert_same(house.start, (1, 1))
            self.assertIs(house.facts, facts)
            self.assertEqual(house.view, View([[(1, 1)]]))
            self.assertEqual((house.round, house.amid, house.waiting), (0, 0, ()))

    def test_views_over_many_rounds_are_those_of_the_history(self):
        for starts, nets, facts in some_games(120, 90):
            houses = [House(start, facts) for start in starts]
            history = played(starts, stretched(nets, facts.stretch), facts.hearing)
            for number, net in enumerate(nets, 1):
                lay(houses, net)
                for at, house in enumerate(houses):
                    self.assertEqual(house.view, view_of(history, at, number // facts.stretch))
                    self.assertEqual(house.view.round, number // facts.stretch)
                    self.assertEqual((house.round, house.amid), (number, number % facts.stretch))
                    self.assertEqual(house.letter(), letter_of(house.view, facts))
                    self.assertEqual(check_letter(house.letter()), house.view)
                    self.assertEqual(house.start, starts[at])

    def test_the_order_of_letters_and_parts_of_strengths_make_no_difference(self):
        source = random.Random(121)

        def mixed(letters):
            parts = [(letter, part) for letter, strength in letters for part in in_parts(source, strength)]
            source.shuffle(parts)
            return source.choice((tuple, list, as_lists))(parts)
        for starts, nets, facts in some_games(122, 60):
            houses = [House(start, facts) for start in starts]
            others = [House(start, facts) for start in starts]
            for net in nets:
                lay(houses, net)
                lay(others, net, mixed)
                self.assertEqual(houses, others)

    def test_equal_houses_stay_equal(self):
        source = random.Random(123)
        for starts, nets, facts in some_games(124, 40):
            houses = [House(start, facts) for start in starts]
            twin = House(starts[0], facts)
            for net in nets:
                letters = told_letters(houses, net, 0)
                lay(houses, net)
                source.shuffle(letters)
                self.assertIsNone(twin.hear(letters))
                self.assertIs(twin == houses[0], True)

    def test_put_away_and_taken_up_amid_a_stretch(self):
        source = random.Random(125)
        for starts, nets, facts in some_games(126, 70):
            houses = [House(start, facts) for start in starts]
            others = [House(start, facts) for start in starts]
            for net in nets:
                lay(houses, net)
                lay(others, net)
                for at, house in enumerate(others):
                    kept = house.kept()
                    self.assert_same(kept, (facts.told, house.view.levels, house.amid, house.waiting))
                    data = source.choice((kept, read_data(data_text(kept)), as_lists(kept)))
                    others[at] = House.taken_up(data)
                    self.assertIs(type(others[at]), House)
                    self.assertEqual(others[at], house)
                    self.assertEqual(state_of(others[at]), state_of(houses[at]))
                    self.assert_tuples(others[at].waiting)
            self.assertEqual([state_of(house) for house in houses], [state_of(house) for house in others])

    def test_over_an_echo_a_house_hears_its_own_letter(self):
        house = House((1, 0), Facts())
        house.hear([(house.letter(), (1, 2))])
        self.assertEqual(house.view, View([[(1, 0)], [(0, ((0, (1, 2)),))]]))

    def test_hearing_nobody(self):
        for hearing in HEARINGS:
            house = House((1, 0), Facts(hearing=hearing, stretch=2))
            for number in range(1, 6):
                house.hear(() if number == 3 else [])
                self.assertEqual((house.round, house.amid, house.waiting), (number, number % 2, ()))
            self.assertEqual(house.view.levels, (((1, 0),), ((0, ()),), ((0, ()),)))

    def test_waiting(self):
        facts = Facts(words=3, stretch=3)
        house = House((0, 0), facts)
        one, other = House((0, 1), facts), House((1, 2), facts)
        house.hear([(other.letter(), (1, 2)), (one.letter(), (1, 3)), (other.letter(), (1, 6))])
        self.assert_same(house.waiting, (((((0, 1),),), (1, 3)), ((((1, 2),),), (2, 3))))
        self.assertEqual((house.view, house.round, house.amid), (View([[(0, 0)]]), 1, 1))
        house.hear([(one.letter(), (2, 3)), (house.letter(), (5, 1))])
        self.assert_same(house.waiting, (((((0, 0),),), (5, 1)), ((((0, 1),),), (1, 1)), ((((1, 2),),), (2, 3))))
        house.hear([(one.letter(), (1, 1))])
        self.assert_same(house.view.levels, (((0, 0), (0, 1), (1, 2)), ((0, ((0, (5, 1)), (1, (2, 1)), (2, (2, 3)))),)))
        self.assertEqual((house.waiting, house.round, house.amid), ((), 3, 0))

    def test_waiting_of_hearing_which(self):
        facts = Facts(hearing="which", stretch=2)
        house, other = House((0, 0), facts), House((1, 0), facts)
        house.hear([(other.letter(), (7, 2)), (other.letter(), (1, 2))])
        self.assert_same(house.waiting, (((((1, 0),),), ONE),))
        house.hear([(other.letter(), (3, 1))])
        self.assert_same(house.view.levels, (((0, 0), (1, 0)), ((0, ((1, ONE),)),)))

    def test_through_a_stretch_a_house_tells_the_view_of_its_beginning(self):
        facts = Facts(stretch=3)
        houses = [House((1, 0), facts), House((0, 0), facts)]
        letters = set()
        for _ in range(3):
            letters.add(data_text(houses[0].letter()))
            lay(houses, Net(2, [(0, 1, ONE)]))
        self.assertEqual(len(letters), 1)
        self.assertNotIn(data_text(houses[0].letter()), letters)

    def test_nothing_passed_in_is_changed_or_kept(self):
        facts = Facts(stretch=2)
        house, other = House((0, 0), facts), House((1, 0), facts)
        letters = as_lists([(other.letter(), ONE)])
        before = copy.deepcopy(letters)
        house.hear(letters)
        self.assertEqual(letters, before)
        waiting = house.waiting
        letters[0][1][0] = 9
        letters[0][0][1][0][0][0] = 0
        self.assertEqual(house.waiting, waiting)
        data = as_lists(house.kept())
        before = copy.deepcopy(data)
        taken = House.taken_up(data)
        self.assertEqual(data, before)
        data[3].clear()
        data[1][0][0][0] = 1
        self.assertEqual(taken, house)


class NewHouseTest(HeardCase):
    def test_bad_starts(self):
        for thing in NO_SEQUENCES + ((), (1,), (1, 0, 0), (2, 0), (-1, 0), (0, 4), (0, -1), (True, 0), (0, False),
                                     (None, 0), (0, "0")):
            self.assert_raises(BadStart, (), House, thing, Facts(words=4))

    def test_starts_that_do_not_fit(self):
        for start, facts in (((0, 1), Facts()), ((1, 0), Facts(lamps=0)), ((0, 0), Facts(most=1)),
                             ((0, 3), Facts(words=3)), ((0, 0), Facts(most=2, lamps=2))):
            self.assert_raises(BadStart, (), House, start, facts)
        for start, facts in (((0, 0), Facts()), ((1, 0), Facts(most=1)), ((0, 0), Facts(most=2)),
                             ((0, 3), Facts(words=4)), ((1, 1), Facts(most=2, lamps=2, words=2))):
            self.assertEqual(House(start, facts).start, start)


class HearErrorsTest(HeardCase):
    def assert_refused(self, error, attributes, house, letters):
        """The round is refused and changes nothing; then the right letters are heard as ever."""
        before = state_of(house)
        self.assert_raises(error, attributes, house.hear, letters)
        self.assertEqual(state_of(house), before)
        other = House.taken_up(house.kept())
        for one in (house, other):
            one.hear([(one.letter(), (2, 1))])
        self.assertEqual(house, other)
        self.assertEqual(house.round, before[3] + 1)

    def houses(self, **told):
        facts = Facts(words=2, **told)
        houses = [House((1, 0), facts), House((0, 1), facts)]
        lay(houses, Net(2, [(0, 1, (1, 2)), (0, 0, ONE)] if facts.stretch == 1 else []))
        return houses

    def test_each_error(self):
        for stretch in (1, 2):
            for thing in NO_SEQUENCES + ((), (1,), (1, 2, 3)):
                house, other = self.houses(stretch=stretch)
                right = (other.letter(), ONE)
                self.assert_refused(WrongLetter, ("shape",), house, [right, thing])
                house, other = self.houses(stretch=stretch)
                self.assert_refused(WrongLetter, ("shape",), house, [(other.letter(), ONE), (thing, ONE)])
            for thing, what in ((None, "shape"), ((1, True), "whole"), ([0, 1], "sign"), ((2, 2), "lowest")):
                house, other = self.houses(stretch=stretch)
                self.assert_refused(BadStrength, (what,), house, ((other.letter(), ONE), (other.letter(), thing)))
            house, other = self.houses(stretch=stretch)
            told, levels = other.letter()
            two_lamps = (told, [[(1, 0), (1, 1)], [(0, [(1, ONE)])]])
            for letter, error, attributes in ((((0, 1, 0, "sums", 1), levels), BadFacts, ("words",)),
                                              ((told, ()), BadView, ("levels", 0, 0)),
                                              (two_lamps, WrongLetter, ("start",))):
                house, _ = self.houses(stretch=stretch)
                self.assert_refused(error, attributes, house, [[letter, ONE]])

    def test_strengths_of_hearing_which(self):
        house, other = self.houses(hearing="which")
        told, levels = other.letter()
        levels = (levels[0], ((0, ((1, (1, 2)),)),))
        self.assert_refused(WrongLetter, ("strength",), house, [((told, levels), ONE)])

    def test_other_facts_and_rounds(self):
        for change in (dict(most=5), dict(lamps=2), dict(words=3), dict(hearing="which"), dict(stretch=2)):
            house, other = self.houses()
            told = Facts(**{**dict(words=2), **change}).told
            self.assert_refused(WrongFacts, (1,), house, [(other.letter(), ONE), ((told, chain(1)), ONE)])
        for levels in (chain(0), chain(2), chain(36)):
            house, other = self.houses()
            letter = (other.letter()[0], levels)
            self.assert_refused(NotOneRound, (2,), house, [(other.letter(), ONE)] * 2 + [(letter, ONE)])

    def test_the_first_fault_is_told(self):
        house, other = self.houses()
        told, levels = other.letter()
        which = (0, 1, 2, "which", 1)
        wrong = [
            (7, WrongLetter, ("shape",)),
            ((None, (2, 2)), BadStrength, ("lowest",)),
            ((None, ONE), WrongLetter, ("shape",)),
            (((None, None), ONE), BadFacts, ("told",)),
            (((which, None), ONE), BadView, ("levels", 0, 0)),
            (((which, [[(0, 2)], [(0, ((0, (2, 1)),))]]), ONE), WrongLetter, ("start",)),
            (((which, [[(0, 1)], [(0, ((0, (2, 1)),))]]), ONE), WrongLetter, ("strength",)),
            (((which, chain(5)), ONE), WrongFacts, (0,)),
            (((told, chain(5)), ONE), NotOneRound, (0,)),
        ]
        for at, (entry, error, attributes) in enumerate(wrong):
            self.assert_raises(error, attributes, house.hear, [entry] + [one for one, _, _ in wrong[:at]])
            if attributes == (0,):
                self.assert_raises(error, (1,), house.hear, [(other.letter(), ONE), entry, 7])

    def test_too_many_levels(self):
        for stretch in (1, 2):
            house = House.taken_up(((0, 1, 1, "sums", stretch), chain(36), stretch - 1, ()))
            self.assertEqual(house.round, 37 * stretch - 1)
            before = state_of(house)
            for letters in ([], [(house.letter(), ONE)]):
                self.assert_raises(BadView, ("levels", 0, 0), house.hear, letters)
                self.assertEqual(state_of(house), before)
            self.assert_raises(BadStrength, ("shape",), house.hear, [(house.letter(), 1)])

    def test_too_many_nodes(self):
        told = (0, 1, 1, "sums", 1)
        letters = [((told, [[(0, 0)], [(0, ((0, (top, 1)),))]]), ONE) for top in range(1, 13)]
        house = House.taken_up((told, chain(1), 0, ()))
        self.assert_refused(BadView, ("level", 1, 0), house, letters)
        house = House.taken_up((told, chain(1), 0, ()))
        house.hear(letters[:11])
        self.assertEqual(len(house.view.levels[1]), 12)

    def test_a_view_that_does_not_fit_the_facts(self):
        facts = Facts(most=2, words=3)
        house = House((0, 0), facts)
        lamp, other = House((1, 0), facts).letter(), House((0, 1), facts).letter()
        self.assert_refused(WrongLetter, ("start",), house, [(lamp, ONE), (other, ONE)])
        house = House((1, 0), Facts(words=2))
        self.assert_refused(WrongLetter, ("start",), house, [(House((1, 1), Facts(words=2)).letter(), ONE)])
        house = House((0, 0), Facts(lamps=2, words=3, most=3))
        letters = [(House(start, house.facts).letter(), ONE) for start in ((1, 0), (1, 1))]
        house.hear(letters)
        self.assertEqual(house.view.levels[0], ((0, 0), (1, 0), (1, 1)))

    def test_amid_a_stretch_what_does_not_fit_is_refused_at_its_end(self):
        facts = Facts(words=2, stretch=2)
        house = House((1, 0), facts)
        house.hear([(House((1, 1), facts).letter(), ONE)])
        before = state_of(house)
        for letters in ([], [(house.letter(), ONE)], [(House((0, 0), facts).letter(), (3, 1))]):
            self.assert_raises(WrongLetter, ("start",), house.hear, letters)
            self.assertEqual(state_of(house), before)
        self.assertEqual(House.taken_up(house.kept()), house)

    def test_view_faults_come_ahead_of_starts_that_do_not_fit(self):
        told = (0, 1, 2, "sums", 1)
        house = House.taken_up((told, [[(1, 0)]] + [[(0, ())]] * 36, 0, ()))
        self.assert_raises(BadView, ("levels", 0, 0), house.hear, [((told, [[(1, 1)]] + [[(0, ())]] * 36), ONE)])


class TakenUpTest(HeardCase):
    def setUp(self):
        self.told = (0, 1, 2, "sums", 3)
        self.waiting = (((((0, 0),), ((0, ()),)), (1, 2)), ((((0, 1),), ((0, ()),)), (2, 1)))
        self.data = (self.told, (((1, 0),), ((0, ()),)), 2, self.waiting)

    def with_entry(self, at, thing):
        return self.data[:at] + (thing,) + self.data[at + 1:]

    def test_taken_up(self):
        house = House.taken_up(as_lists(self.data))
        self.assert_same(house.kept(), self.data)
        self.assert_same(house.waiting, self.waiting)
        self.assertEqual((house.start, house.round, house.amid), ((1, 0), 5, 2))
        self.assertEqual(house.facts, Facts(words=2, stretch=3))
        house.hear([((self.told, self.data[1]), (1, 3))])
        nodes = tuple((place, ()) for place in range(3))
        self.assert_same(house.view.levels, (
            ((0, 0), (0, 1), (1, 0)), nodes, ((2, ((0, (1, 2)), (1, (2, 1)), (2, (1, 3)))),)))

    def test_the_start_is_that_of_the_own_node(self):
        levels = (((0, 0), (0, 1), (1, 0)), ((1, ((0, ONE), (2, ONE))),), ((0, ()),))
        house = House.taken_up((self.told, levels, 0, ()))
        self.assertEqual((house.start, house.round, house.amid), ((0, 1), 6, 0))

    def test_amid_0_and_d_less_1(self):
        for amid in range(3):
            house = House.taken_up(self.with_entry(2, amid)[:3] + ([],))
            self.assertEqual((house.amid, house.round, house.waiting), (amid, 3 + amid, ()))
        for thing in NO_INTEGERS + (-1, 3):
            self.assert_raises(WrongLetter, ("amid",), House.taken_up, self.with_entry(2, thing))
        self.assert_raises(WrongLetter, ("amid",), House.taken_up, ((0, 1, 1, "sums", 1), chain(0), 1, ()))

    def test_shape(self):
        for thing in NO_SEQUENCES + ((), self.data[:3], self.data + (1,)):
            self.assert_raises(WrongLetter, ("shape",), House.taken_up, thing)

    def test_errors_of_the_letter(self):
        self.assert_raises(BadFacts, ("told",), House.taken_up, (None,) * 4)
        self.assert_raises(BadFacts, ("hearing",), House.taken_up, self.with_entry(0, (0, 1, 2, "sum", 3)))
        self.assert_raises(BadView, ("levels", 0, 0), House.taken_up, (self.told, None, None, None))
        self.assert_raises(WrongLetter, ("start",), House.taken_up, (self.told, [[(1, 2)]], None, None))
        which = (0, 1, 2, "which", 3)
        levels = (((1, 0),), ((0, ((0, (2, 1)),)),))
        self.assert_raises(WrongLetter, ("strength",), House.taken_up, (which, levels, None, None))

    def test_waiting(self):
        for thing in NO_SEQUENCES:
            self.assert_raises(WrongLetter, ("waiting",), House.taken_up, self.with_entry(3, thing))
        self.assert_raises(WrongLetter, ("waiting",), House.taken_up, self.with_entry(2, 0))
        self.assert_raises(WrongLetter, ("amid",), House.taken_up, self.data[:2] + (None, None))
        one, other = self.waiting
        self.assert_raises(WrongLetter, ("waiting",), House.taken_up, self.data[:2] + (0, [one]))
        self.assert_raises(WrongLetter, ("waiting",), House.taken_up, self.data[:2] + (0, [None]))
        self.assertEqual(House.taken_up(self.data[:2] + (1, [one])).waiting, (one,))
        between = ((((0, 0), (0, 1)), ((0, ((1, ONE),)),)), ONE)
        self.assertEqual(House.taken_up(self.with_entry(3, (one, between, other))).waiting, (one, between, other))
        self.assert_raises(WrongLetter, ("waiting",), House.taken_up, self.with_entry(3, (one, other, between)))
        for thing in NO_SEQUENCES + ((), one[:1], one + (1,)):
            self.assert_raises(WrongLetter, ("waiting",), House.taken_up, self.with_entry(3, [one, thing]))
        for waiting in ((other, one), (one, one), (one, (one[0], ONE))):
            self.assert_raises(WrongLetter, ("waiting",), House.taken_up, self.with_entry(3, waiting))

    def test_entries_of_waiting(self):
        one, other = self.waiting
        cases = (
            ((one[0], None), BadStrength, ("shape",)), ((None, (1, True)), BadStrength, ("whole",)),
            ((None, ONE), BadView, ("levels", 0, 0)), ((chain(37), ONE), BadView, ("levels", 0, 0)),
            (([[(0, 2)]], ONE), WrongLetter, ("start",)), (([[(0, 0), (2, 0)]], ONE), BadView, ("node", 0, 1)),
            ((chain(0), ONE), NotOneRound, (1,)), ((chain(2), ONE), NotOneRound, (1,)),
        )
        for entry, error, attributes in cases:
            self.assert_raises(error, attributes, House.taken_up, self.with_entry(3, [one, entry, None]))

    def test_waiting_of_hearing_which(self):
        data = ((0, 1, 2, "which", 3),) + self.data[1:3]
        one, other = [(levels, ONE) for levels, _ in self.waiting]
        self.assertEqual(House.taken_up(data + ((one, other),)).waiting, (one, other))
        for entry in ((other[0], (2, 1)), (other[0], (1, 2))):
            self.assert_raises(WrongLetter, ("waiting",), House.taken_up, data + ((one, entry),))
        heard = (((0, 1),), ((0, ((0, (2, 1)),)),))
        self.assert_raises(WrongLetter, ("strength",), House.taken_up, data + ((one, (heard, (2, 1))),))
        self.assert_raises(NotOneRound, (1,), House.taken_up, data + ((one, (chain(3), (2, 1))),))

    def test_data_with_one_thing_changed(self):
        source = random.Random(127)
        things = (None, True, 0, 1, 2, 3, "which", "a", (), (0, 0), (1, 1), ((0, ONE),))
        taken = 0
        for _ in range(1500):
            data = as_lists(self.data)
            place = data
            while type(place[at := source.randrange(len(place))]) is list and place[at] and source.randrange(4):
                place = place[at]
            if source.randrange(3):
                place[at] = source.choice(things)
            else:
                place.insert(at, source.choice(place))
            before = repr(data)
            try:
                house = House.taken_up(data)
            except HeadError:
                self.assertEqual(repr(data), before)
                continue
            taken += 1
            self.assertEqual(as_lists(house.kept()), as_lists(data))
            self.assertEqual(House.taken_up(house.kept()), house)
        self.assertGreater(taken, 50)


class EqualityTest(HeardCase):
    def test_equality(self):
        told = (0, 1, 2, "sums", 3)
        waiting = ((chain(1), (1, 2)),)
        same = House.taken_up((told, chain(1), 2, waiting))
        self.assertIs(House.taken_up(as_lists((told, chain(1), 2, waiting))) == same, True)
        self.assertIs(House.taken_up(as_lists((told, chain(1), 2, waiting))) != same, False)
        for data in (((0, 1, 2, "sums", 4), chain(1), 2, waiting), (told, [[(0, 1)], [(0, ())]], 2, waiting),
                     (told, chain(1), 1, waiting), (told, chain(1), 2, ()), (told, chain(1), 2, ((chain(1), ONE),))):
            self.assertIs(House.taken_up(data) == same, False)
        self.assertIs(same == same.kept(), False)
        self.assertIs(same == same.view, False)

    def test_houses_of_unlike_numbers_of_rounds(self):
        houses = [House((1, 0), Facts()) for _ in range(2)]
        houses[0].hear([])
        self.assertIs(houses[0] == houses[1], False)
        houses[1].hear([])
        self.assertIs(houses[0] == houses[1], True)

    def test_strengths_that_sum_up_alike(self):
        houses = [House((1, 0), Facts(stretch=2)) for _ in range(2)]
        letter = houses[0].letter()
        houses[0].hear([(letter, (1, 2)), (letter, (1, 3))])
        houses[1].hear([(letter, plus((1, 2), (1, 3)))])
        self.assertIs(houses[0] == houses[1], True)


class ManyHousesTest(HeardCase):
    def test_twelve_houses(self):
        source = random.Random(128)
        starts = some_starts(source, 12)
        nets = [joined_net(source, 12) for _ in range(8)]
        for hearing in HEARINGS:
            facts = Facts(12, 1, 2, hearing, 2)
            houses = [House(start, facts) for start in starts]
            history = played(starts, stretched(nets, 2), hearing)
            for number, net in enumerate(nets, 1):
                lay(houses, net)
                for at in range(12):
                    self.assertEqual(houses[at].view, view_of(history, at, number // 2))
