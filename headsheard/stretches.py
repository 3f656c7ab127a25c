"""Stretches: rounds one behind another, whose nets are added up."""

from headsheard.joined import is_joined
from headsheard.nets import add_nets

GREATEST_SIZE = 12


def stretched(nets, size):
    """The sum of the nets of each whole stretch of this size."""
    return tuple([_sum_of(nets[last - size:last]) for last in range(size, len(nets) + 1, size)])


def _sum_of(nets):
    result = nets[0]
    for net in nets[1:]:
        result = add_nets(result, net)
    return result


def fitting_sizes(nets):
    """The sizes for which the nets of each whole stretch join all houses together."""
    sizes = range(1, min(GREATEST_SIZE, len(nets)) + 1)
    return tuple([size for size in sizes if all([is_joined(net) for net in stretched(nets, size)])])
