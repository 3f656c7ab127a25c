"""Steps: which numbers of houses may stand at one level of a view if others stand at the next one."""

from math import lcm

from headsheard.canon import compositions
from headsheard.views import check_level


class StepShape:
    """What a view shows of the step from one level to the next, whatever the numbers of houses are."""

    def __init__(self, view, level):
        nodes = view.levels[level + 1]
        bottoms = 1
        for _, heard in nodes:
            for _, strength in heard:
                bottoms = lcm(bottoms, strength[1])
        self.places = len(view.levels[level])
        # Strengths are only compared, so all of them may be multiplied by one number that makes them whole.
        self.nodes = [(parent, [(other, top * (bottoms // bottom)) for other, (top, bottom) in heard])
                      for parent, heard in nodes]
        self.alone = [node for node, (_, heard) in enumerate(nodes) if len(heard) == 0]
        self.pieces = _pieces_of(nodes)


def _used_by(node):
    """The couples of nodes of the level below that a node uses."""
    parent, heard = node
    return [(min(parent, other), max(parent, other)) for other, _ in heard]


def _pieces_of(nodes):
    """The pieces of a level in the order of their least nodes, as tuples of this node and of all couples used."""
    pieces = []
    for place, node in enumerate(nodes):
        couples = {couple: True for couple in _used_by(node)}
        joined = [piece for piece in pieces if any([couple in couples for couple in piece[1]])]
        for piece in joined:
            for couple in piece[1]:
                couples[couple] = True
        first = min([place] + [piece[0] for piece in joined])
        apart = [piece for piece in pieces if piece not in joined]
        pieces = sorted(apart + [(first, tuple(sorted(couples)))])
    return pieces


class Step:
    """A step to a known row of the next level, among so many houses in all."""

    def __init__(self, shape, above, heads):
        self.shape = shape
        self.heads = heads
        self.all_seen = sum(above) == heads
        # For each node how many of its houses stay in sight, and what they hear of each node, all together.
        self.staying = [0] * shape.places
        self.flows = [[0] * shape.places for _ in range(shape.places)]
        for number, (parent, heard) in zip(above, shape.nodes):
            self.staying[parent] += number
            for other, strength in heard:
                self.flows[parent][other] += number * strength

    def fault(self, row):
        """The first fault of the step from this row, or None."""
        for node, number in enumerate(row):
            if number < self.staying[node]:
                return ("out", node)
        return self._fault_for(self._losing(row))

    def _losing(self, row):
        """For each node whether it loses houses out of sight."""
        return tuple([number > kept for number, kept in zip(row, self.staying)])

    def _fault_for(self, losing):
        """The first fault if just these nodes lose houses, however many."""
        fault = self._flow_fault(losing)
        if fault is None and self.heads > 1 and self.shape.alone:
            fault = ("alone", self.shape.alone[0])
        return self._piece_fault(losing) if fault is None else fault

    def _flow_fault(self, losing):
        flows = self.flows
        whole = [node for node in range(len(losing)) if not losing[node]]
        for node in whole:
            for other in whole:
                if node < other and flows[node][other] != flows[other][node]:
                    return ("unlike", node, other)
        for node in whole:
            for other in range(len(losing)):
                if losing[other] and flows[node][other] < flows[other][node]:
                    return ("less", node, other)
        return None

    def _piece_fault(self, losing):
        pieces = self.shape.pieces
        if self.all_seen:
            return ("apart", pieces[1][0]) if len(pieces) > 1 else None
        for first, couples in pieces:
            if not any([self._is_open(losing, one, other) for one, other in couples]):
                return ("apart", first)
        return None

    def _is_open(self, losing, one, other):
        """Whether houses of the two nodes, or of the one, may hear of houses that get out of sight."""
        if losing[one] and losing[other]:
            return True
        if losing[one]:
            return self.flows[other][one] > self.flows[one][other]
        return losing[other] and self.flows[one][other] > self.flows[other][one]

    def lawful_rows(self):
        """All rows of the level from which the step is lawful, ascending."""
        least = [max(1, kept) for kept in self.staying]
        spare = self.heads - sum(least)
        # Only which nodes lose houses matters, not how many.
        lawful = {}
        found = []
        for more in compositions(spare, len(least) + 1):
            row = tuple([number + further for number, further in zip(least, more)])
            losing = self._losing(row)
            if losing not in lawful:
                lawful[losing] = self._fault_for(losing) is None
            if lawful[losing]:
                found.append(row)
        return tuple(found)


def step_fault(view, level, row, above, heads):
    """The first thing that is unlawful in the step from a row of a level to one of the next, or None."""
    check_level(level, 0, view.round - 1)
    return Step(StepShape(view, level), above, heads).fault(row)


def step_rows(view, level, above, heads):
    """All rows of a level whose step to this row of the next level is lawful."""
    check_level(level, 0, view.round - 1)
    return Step(StepShape(view, level), above, heads).lawful_rows()
