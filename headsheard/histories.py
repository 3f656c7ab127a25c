"""Histories: which houses stand alike, level by level, seen from outside."""

from headsheard.canon import MOST_WORDS, is_whole
from headsheard.errors import BadStarts, NoClass, NoHouse, NoLevel, WrongNet
from headsheard.nets import MOST_HOUSES
from headsheard.plain import is_couple, is_sequence
from headsheard.strengths import NONE, plus


def check_starts(starts):
    """The starts as a tuple of tuples; BadStarts with their first fault."""
    if not is_sequence(starts, 1, MOST_HOUSES):
        raise BadStarts("many", 0)
    for at, start in enumerate(starts):
        if not is_couple(start):
            raise BadStarts("start", at)
        if not is_whole(start[0], 0, 1):
            raise BadStarts("lit", at)
        if not is_whole(start[1], 0, MOST_WORDS - 1):
            raise BadStarts("word", at)
    return tuple([tuple(start) for start in starts])


def _numbered(things):
    """The unlike things in ascending order, and the place of each given one among them."""
    classes = tuple(sorted(set(things)))
    place_of = {thing: place for place, thing in enumerate(classes)}
    return classes, tuple([place_of[thing] for thing in things])


class HouseClass:
    """The houses of one standing at one level: a result."""

    def __init__(self, start, parent, heard, houses):
        self.start = start
        self.parent = parent
        self.heard = heard
        self.houses = houses

    def __eq__(self, other):
        return (isinstance(other, HouseClass) and self.start == other.start and self.parent == other.parent
                and self.heard == other.heard and self.houses == other.houses)


class History:
    """The standings of houses over the nets that were added."""

    def __init__(self, starts, hearing="sums"):
        self.starts = check_starts(starts)
        self.houses = len(self.starts)
        self.hearing = hearing
        self.round = 0
        self.nets = ()
        classes, places = _numbered(self.starts)
        self.levels = (classes,)
        # For each level the class of each house.
        self._places = (places,)

    def add(self, net):
        """Lay the net of the next round."""
        if net.houses != self.houses:
            raise WrongNet(net.houses)
        own = self._places[-1]
        classes, places = _numbered([(own[house], self._heard_row(net, house)) for house in range(self.houses)])
        self.round += 1
        self.nets = self.nets + (net,)
        self.levels = self.levels + (classes,)
        self._places = self._places + (places,)

    def _heard_row(self, net, house):
        """What a house hears over a net laid next, class by class of the last level."""
        sums = {}
        for other, strength in net.heard_by(house):
            number = self._places[-1][other]
            sums[number] = plus(sums.get(number, NONE), strength)
        if self.hearing == "which":
            return tuple([(number, (1, 1)) for number in sorted(sums)])
        return tuple([(number, sums[number]) for number in sorted(sums)])

    def classes(self, level):
        """The classes of a level in the order of their numbers."""
        self._check_level(level, self.round)
        return tuple([self._class_at(level, number) for number in range(len(self.levels[level]))])

    def _class_at(self, level, number):
        houses = tuple([house for house in range(self.houses) if self._places[level][house] == number])
        parent, heard = self.levels[level][number] if level > 0 else (None, ())
        return HouseClass(self.starts[houses[0]], parent, heard, houses)

    def class_of(self, house, level):
        """The number of the class of a house at a level."""
        self._check_house(house)
        self._check_level(level, self.round)
        return self._places[level][house]

    def children(self, level, number):
        """The classes of the next level whose parent is this class."""
        self._check_level(level, self.round - 1)
        self._check_class(level, number)
        return self._children_of(level, number)

    def _children_of(self, level, number):
        return tuple([child for child, (parent, _) in enumerate(self.levels[level + 1]) if parent == number])

    def still(self, level):
        """Whether each class of the level has one child."""
        self._check_level(level, self.round - 1)
        # Each class has a child, so as many classes above mean one child each.
        return len(self.levels[level]) == len(self.levels[level + 1])

    def branching(self):
        """The levels that are not still."""
        return tuple([level for level in range(self.round) if not self.still(level)])

    def parted_at(self, house, other):
        """The first level at which two houses stand in unlike classes, or None."""
        self._check_house(house)
        self._check_house(other)
        for level, places in enumerate(self._places):
            if places[house] != places[other]:
                return level
        return None

    def flow(self, level, number, other):
        """What the houses of a class hear, all together, of those of another one in the round behind the level."""
        self._check_level(level, self.round - 1)
        self._check_class(level, number)
        self._check_class(level, other)
        places = self._places[level]
        result = NONE
        for i, j, strength in self.nets[level].links:
            # Over an echo one house hears once; over another link each end hears.
            for hearer, heard in [(i, j)] if i == j else [(i, j), (j, i)]:
                if (places[hearer], places[heard]) == (number, other):
                    result = plus(result, strength)
        return result

    def _check_house(self, house):
        if not is_whole(house, 0, self.houses - 1):
            raise NoHouse(house)

    def _check_level(self, level, last):
        if not is_whole(level, 0, last):
            raise NoLevel(level)

    def _check_class(self, level, number):
        if not is_whole(number, 0, len(self.levels[level]) - 1):
            raise NoClass(number)
