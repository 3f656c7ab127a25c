"""Net rows: a net for each round, up to an end or for ever, written as a plan over named nets."""

from math import gcd

from headsheard.canon import is_whole
from headsheard.errors import BadRow, BadStrength, NoNet, TooLong
from headsheard.joined import is_joined
from headsheard.nets import Net, add_nets, renumber_net, scale_net
from headsheard.plain import as_tuples, is_couple, is_sequence
from headsheard.strengths import check_strength, times

MOST_NETS = 60
MOST_NODES = 120
MOST_DEPTH = 12
MOST_COPIES = 10 ** 9
LAST_ROUND = 10 ** 9
MOST_SPAN = 1000
MOST_LETTERS = 4
LETTERS = "ABCDEFGHIJKLMNOPQRSTUVWXYZ"
# How many entries a node has that begins with the word; "then" has two or more.
ENTRIES = {"net": 2, "repeat": 4, "ever": 3, "turn": 3, "swap": 4, "scale": 3}


def is_name(thing):
    """Whether the thing may be the name of a net."""
    if not isinstance(thing, str) or not 1 <= len(thing) <= MOST_LETTERS:
        return False
    return all([letter in LETTERS for letter in thing])


def _check_entries(nets):
    """The couples (name, net) ascending by name; BadRow with their first fault."""
    if not is_sequence(nets, 1, MOST_NETS):
        raise BadRow("nets", ())
    net_of = {}
    for at, entry in enumerate(nets):
        if not is_couple(entry):
            raise BadRow("entry", (at,))
        name, net = entry
        if not is_name(name):
            raise BadRow("name", (at,))
        if name in net_of:
            raise BadRow("twice", (at,))
        if net.houses != nets[0][1].houses:
            raise BadRow("houses", (at,))
        net_of[name] = net
    return tuple([(name, net_of[name]) for name in sorted(net_of)])


def _check_plan(plan, names, houses):
    """Raise the first fault of a plan: each node is asked ahead of its parts."""
    waiting = [(plan, ())]
    nodes = 0
    while waiting:
        node, trail = waiting.pop()
        if not _has_form(node):
            raise BadRow("form", trail)
        nodes += 1
        if nodes > MOST_NODES or len(trail) >= MOST_DEPTH:
            raise BadRow("size", trail)
        if node[0] == "net" and node[1] not in names:
            raise BadRow("name", trail)
        if not _numbers_fit(node, houses):
            raise BadRow("number", trail)
        waiting.extend([(node[at], trail + (at,)) for at in reversed(_places_of_parts(node))])
    behind = _find_behind(plan, ())
    if behind is not None:
        raise BadRow("behind", behind)


def _has_form(node):
    """Whether this begins with a word of plans and has as many entries as that asks."""
    if not is_sequence(node, 2) or not isinstance(node[0], str):
        return False
    return node[0] == "then" or ENTRIES.get(node[0]) == len(node)


def _places_of_parts(node):
    """The indexes of the parts of a node."""
    if node[0] == "net":
        return []
    return list(range(1, len(node))) if node[0] == "then" else [len(node) - 1]


def _numbers_fit(node, houses):
    """Whether the numbers of a node are right."""
    word = node[0]
    if word == "repeat":
        return is_whole(node[1], 1, MOST_COPIES) and is_whole(node[2], 0, houses - 1)
    if word in ("ever", "turn"):
        return is_whole(node[1], 0, houses - 1)
    if word == "swap":
        return is_whole(node[1], 0, houses - 1) and is_whole(node[2], 0, houses - 1) and node[1] != node[2]
    return word != "scale" or _is_strength(node[1])


def _is_strength(thing):
    try:
        check_strength(thing)
    except BadStrength:
        return False
    return True


def _is_endless(plan):
    if plan[0] in ("net", "repeat"):
        return False
    return plan[0] == "ever" or _is_endless(plan[-1])


def _find_behind(plan, trail):
    """The trail of the first endless node that is copied or has something behind it, or None."""
    for at in _places_of_parts(plan):
        barred = plan[0] in ("repeat", "ever") or at < len(plan) - 1
        if barred and _is_endless(plan[at]):
            return trail + (at,)
        found = _find_behind(plan[at], trail + (at,))
        if found is not None:
            return found
    return None


def _length_of(plan):
    """The number of rounds of a plan, None for an endless one."""
    if plan[0] == "net":
        return 1
    if _is_endless(plan):
        return None
    if plan[0] == "then":
        return sum([_length_of(part) for part in plan[1:]])
    return _length_of(plan[-1]) * (plan[1] if plan[0] == "repeat" else 1)


def _cycle_of(plan, houses):
    """The couple (before, period) of an endless plan."""
    if plan[0] == "ever":
        return 0, _length_of(plan[2]) * (houses // gcd(houses, plan[1]))
    before, period = _cycle_of(plan[-1], houses)
    if plan[0] == "then":
        before += sum([_length_of(part) for part in plan[1:-1]])
    return before, period


def _step_inside(plan, number):
    """The part in which a round of a plan stands, which round of the part it is, and which copy of it."""
    if plan[0] in ("repeat", "ever"):
        length = _length_of(plan[-1])
        return plan[-1], (number - 1) % length + 1, (number - 1) // length
    if plan[0] == "then":
        for part in plan[1:-1]:
            if number <= _length_of(part):
                return part, number, 0
            number -= _length_of(part)
    return plan[-1], number, 0


def _become(plan, copy, houses):
    """Which house each house becomes in a copy of the part of a plan."""
    places = list(range(houses))
    if plan[0] == "swap":
        places[plan[1]], places[plan[2]] = plan[2], plan[1]
    by = 0
    if plan[0] == "turn":
        by = plan[1]
    if plan[0] in ("repeat", "ever"):
        by = copy * plan[-2]
    return [(place + by) % houses for place in places]


class NetRow:
    """A net for each round, as a plan over named nets says."""

    def __init__(self, nets, plan):
        entries = _check_entries(nets)
        houses = entries[0][1].houses
        _check_plan(plan, [name for name, _ in entries], houses)
        self.houses = houses
        self.nets = entries
        self.plan = as_tuples(plan)
        self._rounds = _length_of(self.plan)

    @property
    def length(self):
        """The number of rounds, None for an endless net row."""
        return self._rounds

    def net_at(self, number):
        """The net of a round."""
        if not is_whole(number, 1, LAST_ROUND) or (self._rounds is not None and number > self._rounds):
            raise NoNet(number)
        plan, places, factor = self.plan, list(range(self.houses)), (1, 1)
        while plan[0] != "net":
            part, number, copy = _step_inside(plan, number)
            # What is further inside is done first, so its places are looked up in those found so far.
            places = [places[place] for place in _become(plan, copy, self.houses)]
            if plan[0] == "scale":
                factor = times(factor, plan[1])
            plan = part
        net = dict(self.nets)[plan[1]]
        net = net if factor == (1, 1) else scale_net(net, factor)
        return net if places == list(range(self.houses)) else renumber_net(net, places)

    def nets_to(self, many):
        """The nets of the rounds up to this one."""
        return tuple([self.net_at(number) for number in range(1, many + 1)])

    def cycle(self):
        """The couple (before, period) of an endless net row, None for every other one."""
        return _cycle_of(self.plan, self.houses) if self._rounds is None else None

    def __eq__(self, other):
        return isinstance(other, NetRow) and self.nets == other.nets and self.plan == other.plan


def _name_at(place):
    """The name of the net that stands at this place among unlike ones."""
    if place < len(LETTERS):
        return LETTERS[place]
    return LETTERS[place // len(LETTERS) - 1] + LETTERS[place % len(LETTERS)]


def list_row(nets, *, ever=False):
    """The net row of a list of nets, once or for ever."""
    if not is_sequence(nets, 1, MOST_NETS):
        raise BadRow("nets", ())
    name_of = {}
    entries = []
    for net in nets:
        if net.told not in name_of:
            name_of[net.told] = _name_at(len(name_of))
            entries.append((name_of[net.told], net))
    plan = ("then",) + tuple([("net", name_of[net.told]) for net in nets])
    return NetRow(entries, ("ever", 0, plan) if ever else plan)


def _checked_span(net_row):
    """The span of a net row; TooLong if it is too long to look at each of its rounds."""
    cycle = net_row.cycle()
    span = net_row.length if cycle is None else sum(cycle)
    if span > MOST_SPAN:
        raise TooLong(span)
    return span


def first_unlike(one, other):
    """The first round in which the nets of two net rows are unlike or just one has a net, or None."""
    _checked_span(one)
    _checked_span(other)
    ends = [net_row.length for net_row in (one, other) if net_row.length is not None]
    last = min(ends) if ends else _rounds_of_both(one.cycle(), other.cycle())
    for number in range(1, last + 1):
        if one.net_at(number) != other.net_at(number):
            return number
    return None if one.length == other.length else last + 1


def _rounds_of_both(cycle, other_cycle):
    """So many rounds have to be alike for two endless net rows to be so in every round."""
    return max(cycle[0], other_cycle[0]) + cycle[1] + other_cycle[1]


def stretch_net(net_row, number, size):
    """The sum of the nets of a stretch of this size."""
    first, last = (number - 1) * size + 1, number * size
    if net_row.length is not None and last > net_row.length:
        raise NoNet(net_row.length + 1)
    net = net_row.net_at(first)
    for later in range(first + 1, last + 1):
        net = add_nets(net, net_row.net_at(later))
    return net


def first_apart(net_row, size=1):
    """The number of the first stretch whose sum is not joined, or None."""
    if size == 1:
        return _first_loose(net_row.plan, [name for name, net in net_row.nets if not is_joined(net)])
    nets = net_row.nets_to(_checked_span(net_row))
    for number in range(1, _stretches_to_ask(net_row, size) + 1):
        places = [_place_of_round(net_row, earlier) for earlier in range((number - 1) * size, number * size)]
        if not is_joined(_union_of([nets[place] for place in places])):
            return number
    return None


def _stretches_to_ask(net_row, size):
    """How many stretches there are, or how many stand for all if there is no end."""
    if net_row.length is not None:
        return net_row.length // size
    before, period = net_row.cycle()
    return (before + size - 1) // size + period // gcd(period, size)


def _place_of_round(net_row, earlier):
    """The place in the span at which the net stands that comes behind so many earlier rounds."""
    if net_row.length is not None:
        return earlier
    before, period = net_row.cycle()
    return earlier if earlier < before else before + (earlier - before) % period


def _union_of(nets):
    """A net that links what one of the nets links; how strongly does not matter for how it is joined."""
    linked = {(i, j): True for net in nets for i, j, _ in net.links}
    return Net(nets[0].houses, [(i, j, (1, 1)) for i, j in linked])


def _first_loose(plan, loose):
    """The first round of a plan whose net has one of these names, or None."""
    if plan[0] == "net":
        return 1 if plan[1] in loose else None
    before = 0
    # All copies of a part have the same names, so the first one tells of all.
    for at in _places_of_parts(plan):
        found = _first_loose(plan[at], loose)
        if found is not None:
            return before + found
        # Only the last part may be endless, and nothing is counted behind it.
        before += _length_of(plan[at]) or 0
    return None
