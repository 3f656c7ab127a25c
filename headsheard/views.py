"""Views: all that a house can know at a level."""

from headsheard.canon import is_start, is_whole
from headsheard.errors import BadStrength, BadView, NoHouse, NoLevel, NoNode
from headsheard.plain import is_couple, is_sequence
from headsheard.strengths import check_strength

MOST_LEVELS = 37
MOST_NODES = 12


def _checked_levels(levels):
    """The levels of a view as tuples through and through; BadView with their first fault."""
    if not is_sequence(levels, 1, MOST_LEVELS):
        raise BadView("levels", 0, 0)
    checked = []
    for at, level in enumerate(levels):
        checked.append(_checked_level(level, at, len(checked[-1]) if checked else 0))
    if len(checked[-1]) > 1:
        raise BadView("top", len(checked) - 1, 0)
    _check_loose(checked)
    return tuple(checked)


def _checked_level(level, at, below):
    """The nodes of a level, of which the level below has so many."""
    if not is_sequence(level, 1, MOST_NODES):
        raise BadView("level", at, 0)
    nodes = []
    for place, thing in enumerate(level):
        node = _checked_start(thing, place) if at == 0 else _checked_node(thing, at, place, below)
        if nodes and node <= nodes[-1]:
            raise BadView("order", at, place)
        nodes.append(node)
    return tuple(nodes)


def _checked_start(thing, place):
    if not is_start(thing):
        raise BadView("node", 0, place)
    return tuple(thing)


def _checked_node(thing, level, place, below):
    if not is_couple(thing):
        raise BadView("node", level, place)
    parent, heard = thing
    if not is_whole(parent, 0, below - 1):
        raise BadView("parent", level, place)
    if not _is_heard_row(heard, below):
        raise BadView("heard", level, place)
    try:
        return (parent, tuple([(number, check_strength(strength)) for number, strength in heard]))
    except BadStrength:
        raise BadView("strength", level, place) from None


def _is_heard_row(heard, below):
    """Whether these are couples that ascend by the numbers of nodes of the level below."""
    if not is_sequence(heard):
        return False
    least = 0
    for entry in heard:
        if not is_couple(entry) or not is_whole(entry[0], least, below - 1):
            return False
        least = entry[0] + 1
    return True


def _numbers_met(nodes):
    """The nodes of the level below that are the parent of one of these nodes or stand in its heard row."""
    met = {}
    for parent, heard in nodes:
        met[parent] = True
        for number, _ in heard:
            met[number] = True
    return tuple(sorted(met))


def _check_loose(levels):
    """Raise "loose" for the first node that no node of the next level leads to."""
    for at in range(len(levels) - 1):
        met = _numbers_met(levels[at + 1])
        for node in range(len(levels[at])):
            if node not in met:
                raise BadView("loose", at, node)


class View:
    """All that a house can know: the standings that it has met, level by level."""

    def __init__(self, levels):
        self.levels = _checked_levels(levels)
        self.round = len(self.levels) - 1

    def path(self):
        """The number of the own node and of its forebears, level by level."""
        numbers = [0]
        for level in reversed(self.levels[1:]):
            numbers.append(level[numbers[-1]][0])
        return tuple(numbers[::-1])

    def start_of(self, level, node):
        """The start from which a node comes by parents."""
        self._check_node(level, node, self.round)
        number = node
        for at in range(level, 0, -1):
            number = self.levels[at][number][0]
        return self.levels[0][number]

    def children(self, level, node):
        """The nodes of the next level whose parent the node is."""
        self._check_node(level, node, self.round - 1)
        return tuple([child for child, (parent, _) in enumerate(self.levels[level + 1]) if parent == node])

    def _check_node(self, level, node, last):
        check_level(level, 0, last)
        check_node(self, level, node)

    def __eq__(self, other):
        return isinstance(other, View) and self.levels == other.levels


def check_level(level, first, last):
    """NoLevel unless the level is an integer from `first` to `last`."""
    if not is_whole(level, first, last):
        raise NoLevel(level)


def check_node(view, level, node):
    """NoNode unless this is a node of that level."""
    if not is_whole(node, 0, len(view.levels[level]) - 1):
        raise NoNode(level, node)


def trusted_view(levels):
    """The view of levels that are known to be right: to check them once more would take most of the time."""
    view = View((levels[0][:1],))
    view.levels = levels
    view.round = len(levels) - 1
    return view


def _reached(levels, node):
    """For each level the numbers of what is reached from this node of the last level."""
    lots = [(node,)]
    for level in reversed(levels[1:]):
        lots.append(_numbers_met([level[number] for number in lots[-1]]))
    return lots[::-1]


def _cut_out(levels, node):
    """What is reached from this node of the last level, as levels that are numbered anew."""
    lots = _reached(levels, node)
    cut = [tuple([levels[0][number] for number in lots[0]])]
    for at in range(1, len(levels)):
        nodes = [levels[at][number] for number in lots[at]]
        # Where all of the level below is reached, its nodes keep their numbers.
        if len(lots[at - 1]) < len(levels[at - 1]):
            nodes = moved_nodes(nodes, {number: place for place, number in enumerate(lots[at - 1])})
        cut.append(tuple(nodes))
    return tuple(cut)


def moved_nodes(nodes, place_of):
    """The nodes of a level when those of the level below have become these places, which ascend as they did."""
    return [(place_of[parent], tuple([(place_of[number], strength) for number, strength in heard]))
            for parent, heard in nodes]


def _check_house(history, house):
    if not is_whole(house, 0, history.houses - 1):
        raise NoHouse(house)


def view_of(history, house, level=None):
    """The view of a house of a history at a level, at the last one if none is told."""
    _check_house(history, house)
    last = history.round if level is None else level
    check_level(last, 0, history.round)
    if last >= MOST_LEVELS:
        raise BadView("levels", 0, 0)
    return trusted_view(_cut_out(history.levels[:last + 1], history.class_of(house, last)))


def part_of(view, level, node):
    """The view that the houses of a node had."""
    check_level(level, 0, view.round)
    check_node(view, level, node)
    return trusted_view(_cut_out(view.levels[:level + 1], node))


def earlier_view(view, level):
    """The house's own view of that level."""
    check_level(level, 0, view.round)
    return part_of(view, level, view.path()[level])


def find_part(view, part):
    """The number of the node whose houses had the view `part`, or None."""
    if part.round > view.round:
        return None
    places = [_place_in(start, view.levels[0]) for start in part.levels[0]]
    for level, nodes in zip(view.levels[1:], part.levels[1:]):
        # What ascends in the part ascends in the view, too; what leads to a node without a place has none itself.
        places = [_place_in(node, level) for node in moved_nodes(nodes, places)]
    return places[0]


def _place_in(thing, level):
    """The place of the thing in the level, or None."""
    return level.index(thing) if thing in level else None


def seen_classes(history, house, level):
    """For each level up to this one the classes that are nodes of the house's view."""
    _check_house(history, house)
    check_level(level, 0, history.round)
    return tuple(_reached(history.levels[:level + 1], history.class_of(house, level)))


def unseen_houses(history, house, level, below):
    """The houses whose class at the level below is out of the house's sight."""
    lots = seen_classes(history, house, level)
    check_level(below, 0, level)
    return tuple([other for other in range(history.houses) if history.class_of(other, below) not in lots[below]])
