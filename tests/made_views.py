"""Views for the tests that no history need show, and a plain second reading of what is wrong with levels."""

import random
from math import gcd

from headsheard.views import view_of
from standings import HEARINGS, STRENGTHS, played, some_nets, some_starts

ONE = (1, 1)


def is_list(thing, low=0, high=10 ** 9):
    return type(thing) in (list, tuple) and low <= len(thing) <= high


def is_number(thing, low, high):
    return type(thing) is int and low <= thing <= high


def is_strength(thing):
    if not is_list(thing, 2, 2) or [type(part) for part in thing] != [int, int]:
        return False
    return thing[0] > 0 and thing[1] > 0 and gcd(*thing) == 1


def as_tuples(thing):
    return tuple(as_tuples(part) for part in thing) if type(thing) in (list, tuple) else thing


def node_fault(node, below):
    """The first word of [6.3] that applies to one node of a later level."""
    if not is_list(node, 2, 2):
        return "node"
    parent, heard = node
    if not is_number(parent, 0, below - 1):
        return "parent"
    if not is_list(heard) or not all(is_list(entry, 2, 2) and is_number(entry[0], 0, below - 1) for entry in heard):
        return "heard"
    numbers = [number for number, _ in heard]
    if numbers != sorted(set(numbers)):
        return "heard"
    return None if all(is_strength(strength) for _, strength in heard) else "strength"


def fault_of(levels):
    """What, level and node of the first fault of levels, None for those of a view."""
    if not is_list(levels, 1, 37):
        return ("levels", 0, 0)
    for at, level in enumerate(levels):
        if not is_list(level, 1, 12):
            return ("level", at, 0)
        for place, node in enumerate(level):
            if at == 0:
                right = is_list(node, 2, 2) and is_number(node[0], 0, 1) and is_number(node[1], 0, 3)
                fault = None if right else "node"
            else:
                fault = node_fault(node, len(levels[at - 1]))
            if fault is None and place and not as_tuples(node) > as_tuples(level[place - 1]):
                fault = "order"
            if fault:
                return (fault, at, place)
    if len(levels[-1]) != 1:
        return ("top", len(levels) - 1, 0)
    for at, level in enumerate(levels[:-1]):
        for place in range(len(level)):
            if not any(parent == place or place in dict(heard) for parent, heard in as_tuples(levels[at + 1])):
                return ("loose", at, place)
    return None


def some_views(seed, many, most=5, rounds=6, hearings=HEARINGS):
    """Views of houses of some histories, each with its history, its house and its level."""
    source = random.Random(seed)
    for at in range(many):
        houses = source.randrange(1, most + 1)
        hearing = hearings[at % len(hearings)]
        history = played(some_starts(source, houses, source.randrange(1, 4)),
                         some_nets(source, houses, source.randrange(rounds)), hearing)
        house, level = source.randrange(houses), source.randrange(history.round + 1)
        yield view_of(history, house, level), history, house, level


def made_levels(source, rounds, most=4):
    """The levels of a right view that was thrown together, from the own node down."""
    count = 1
    upper = []
    for level in range(rounds, 0, -1):
        below = source.randrange(1, most + 1)
        nodes = set()
        while len(nodes) < count:
            heard = sorted(source.sample(range(below), source.randrange(below + 1)))
            nodes.add((source.randrange(below), tuple((number, source.choice(STRENGTHS)) for number in heard)))
        upper.append(tidied(sorted(nodes)))
        count = len(set().union(*[{parent} | set(dict(heard)) for parent, heard in nodes]))
    starts = source.sample([(lit, word) for lit in range(2) for word in range(4)], count)
    return (tuple(sorted(starts)), *upper[::-1])


def tidied(nodes):
    """The nodes with the numbers of the level below made gapless; their order stays."""
    met = sorted(set().union(*[{parent} | set(dict(heard)) for parent, heard in nodes]))
    return tuple((met.index(parent), tuple((met.index(number), strength) for number, strength in heard))
                 for parent, heard in nodes)


def chain(rounds):
    """The levels of a house that hears nobody."""
    return [[(0, 0)]] + [[(0, ())]] * rounds


def wide(nodes, rounds=2):
    """The levels of a view whose level ahead of the last has so many nodes."""
    row = [(0, ((0, (top, 1)),)) for top in range(1, nodes + 1)]
    return chain(rounds - 2) + [row, [(0, tuple((number, ONE) for number in range(1, nodes)))]]
