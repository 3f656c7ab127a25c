"""A plain second reading of [0.6] for the tests, and nets and starts to try it on."""

import random
from fractions import Fraction

from headsheard.histories import History
from headsheard.nets import Net, ring_net

STRENGTHS = ((1, 1), (1, 1), (1, 2), (1, 2), (3, 2), (1, 3), (2, 3), (2, 1), (5, 7))
HEARINGS = ("sums", "which")
STARTS = tuple((lit, word) for lit in range(2) for word in range(4))


class Standings:
    """Gives each unlike standing one number, whatever history it comes from."""

    def __init__(self):
        self.number_of = {}
        self.told = []

    def number(self, told):
        if told not in self.number_of:
            self.number_of[told] = len(self.told)
            self.told.append(told)
        return self.number_of[told]

    def levels(self, starts, nets, hearing="sums"):
        """For each level the number of each house's standing."""
        rows = [[self.number(tuple(start)) for start in starts]]
        for net in nets:
            rows.append([self.next_of(rows[-1], house, net, hearing) for house in range(net.houses)])
        return rows

    def next_of(self, row, house, net, hearing):
        heard = {}
        for i, j, strength in net.links:
            for one, other in {(i, j), (j, i)}:
                if one == house:
                    heard[row[other]] = heard.get(row[other], 0) + Fraction(*strength)
        if hearing == "which":
            heard = dict.fromkeys(heard, Fraction(1))
        return self.number(("next", row[house], frozenset(heard.items())))

    def below(self, number):
        """The standings of the level below that a standing contains."""
        _, own, heard = self.told[number]
        return {own} | {other for other, _ in heard}

    def reached(self, number, level):
        """For each level up to this one the standings that a standing of the level contains."""
        lots = [{number}]
        for _ in range(level):
            lots.append(set().union(*[self.below(one) for one in lots[-1]]))
        return lots[::-1]

    def written(self, lots):
        """The levels with these standings as the document writes them, and the place of each standing."""
        levels, place_of = [], {}
        for at, lot in enumerate(lots):
            node_of = {one: self.told[one] if at == 0 else self.node(one, place_of) for one in lot}
            levels.append(tuple(sorted(node_of.values())))
            place_of.update({one: levels[-1].index(node) for one, node in node_of.items()})
        return tuple(levels), place_of

    def node(self, number, place_of):
        _, own, heard = self.told[number]
        row = sorted((place_of[other], (worth.numerator, worth.denominator)) for other, worth in heard)
        return (place_of[own], tuple(row))

    def view(self, number, level):
        """The levels of the view of a standing of this level."""
        return self.written(self.reached(number, level))[0]


def some_starts(source, houses, words=2):
    """One lamp, and words for all houses."""
    lamp = source.randrange(houses)
    return [(int(house == lamp), source.randrange(words)) for house in range(houses)]


def any_net(source, houses, strengths=STRENGTHS):
    """A net that is perhaps not joined."""
    pairs = [(i, j) for i in range(houses) for j in range(i, houses)]
    kept = source.sample(pairs, source.randrange(min(len(pairs), 2 * houses) + 1))
    return Net(houses, [(i, j, source.choice(strengths)) for i, j in kept])


def joined_net(source, houses, strengths=STRENGTHS):
    """A joined net: a tree, perhaps some more links and some echoes."""
    places = list(range(houses))
    source.shuffle(places)
    pairs = {tuple(sorted((places[k], source.choice(places[:k])))) for k in range(1, houses)}
    for _ in range(source.randrange(houses)):
        pairs.add(tuple(sorted((source.randrange(houses), source.randrange(houses)))))
    return Net(houses, [(i, j, source.choice(strengths)) for i, j in sorted(pairs)])


def even_net(source, houses):
    """A joined net in which many houses stand alike: all links have one strength."""
    return joined_net(source, houses, ((1, 1),)) if source.randrange(2) else ring_net(houses, (1, 2))


def some_nets(source, houses, many):
    """Nets of one kind or of several."""
    makers = source.choice(([any_net], [joined_net], [even_net], [any_net, joined_net, even_net]))
    return [source.choice(makers)(source, houses) for _ in range(many)]


def played(starts, nets, hearing="sums"):
    history = History(starts, hearing)
    for net in nets:
        history.add(net)
    return history


def some_histories(seed, many, most=5, rounds=6):
    """Couples of a history and what it was made of."""
    source = random.Random(seed)
    for at in range(many):
        houses = 12 if at % 25 == 24 else source.randrange(1, most + 1)
        starts = some_starts(source, houses, source.randrange(1, 3))
        nets = some_nets(source, houses, source.randrange(rounds))
        hearing = HEARINGS[at % 2]
        yield played(starts, nets, hearing), starts, nets, hearing


def in_parts(source, strength):
    """A strength as one to three strengths with this sum."""
    parts = [Fraction(*strength)]
    for _ in range(source.randrange(3)):
        part = parts.pop() * Fraction(1, source.randrange(2, 5))
        parts += [part, Fraction(*strength) - sum(parts) - part]
    return [(part.numerator, part.denominator) for part in parts]
