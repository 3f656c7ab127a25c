"""Runs: houses played over nets, seen from outside."""

from headsheard.canon import counts_of_starts, is_whole
from headsheard.errors import BadFacts, NoHouse, NoNet, NotJoined, WrongNet
from headsheard.facts import Facts, fits_facts
from headsheard.histories import History, check_starts
from headsheard.houses import House
from headsheard.joined import is_joined
from headsheard.netrows import NetRow
from headsheard.stretches import stretched
from headsheard.views import earlier_view


class Run:
    """Houses that hear one another over the nets of a course."""

    def __init__(self, nets, starts, facts):
        self.starts = check_starts(starts)
        self.houses = len(self.starts)
        self.facts = facts
        self.counts = counts_of_starts(self.starts)
        misfit = fits_facts(facts, self.counts)
        if misfit is not None:
            raise BadFacts(misfit)
        self._nets = nets if isinstance(nets, NetRow) else tuple(nets)
        for row in [self._nets] if isinstance(nets, NetRow) else self._nets:
            if row.houses != self.houses:
                raise WrongNet(row.houses)
        self.course = ()
        self.round = 0
        self._lot = [House(start, facts) for start in self.starts]

    def step(self):
        """Play the next round; its number."""
        number = self.round + 1
        net = self._net_of(number)
        if number % self.facts.stretch == 0 and not self._joins_stretch(net):
            raise NotJoined(number)
        # What is refused at one house must not be heard at another one, so copies hear.
        views = [house.view for house in self._lot]
        lot = [house.copied() for house in self._lot]
        for at, house in enumerate(lot):
            house.hear_views([(views[other], strength) for other, strength in net.heard_by(at)])
        self._lot = lot
        self.course = self.course + (net,)
        self.round = number
        return number

    def _net_of(self, number):
        if isinstance(self._nets, NetRow):
            return self._nets.net_at(number)
        if number > len(self._nets):
            raise NoNet(number)
        return self._nets[number - 1]

    def _joins_stretch(self, net):
        """Whether the nets of the stretch that ends with this net join all houses together."""
        size = self.facts.stretch
        nets = self.course[self.round + 1 - size:] + (net,)
        return is_joined(stretched(nets, size)[0])

    def view_at(self, house):
        """The view of a house now."""
        self._check_house(house)
        return self._lot[house].view

    def house_at(self, house):
        """A new house that goes on as this one would."""
        self._check_house(house)
        return self._lot[house].copied()

    def _check_house(self, house):
        if not is_whole(house, 0, self.houses - 1):
            raise NoHouse(house)


def walk_run(run, many):
    """Play so many rounds; the number of each behind it."""
    for _ in range(many):
        number = run.step()
        yield number


def history_of(run):
    """The history of the whole stretches of a run."""
    history = History(run.starts, run.facts.hearing)
    for net in stretched(run.course, run.facts.stretch):
        history.add(net)
    return history


def alike_lots(run):
    """The lots of houses with equal views."""
    lots = {}
    for house in range(run.houses):
        lots.setdefault(run.view_at(house).levels, []).append(house)
    return tuple(sorted([tuple(lot) for lot in list(lots.values())]))


def same_for(run, house, other, other_house):
    """Whether two houses are the same, so that one may take the place of the other."""
    return run.house_at(house) == other.house_at(other_house)


def first_unlike_level(run, house, other, other_house):
    """The first level that both houses' views have at which their earlier views differ, or None."""
    one, two = run.view_at(house), other.view_at(other_house)
    levels = min(one.round, two.round) + 1
    low, high = 0, levels
    # What differs at a level differs at each later one, so half of the levels can be left out at a time.
    while low < high:
        middle = (low + high) // 2
        if earlier_view(one, middle) == earlier_view(two, middle):
            low = middle + 1
        else:
            high = middle
    return low if low < levels else None


def stretch_run(run):
    """The run with the same views whose rounds are the whole stretches of this one."""
    told = run.facts
    nets = stretched(run.course, told.stretch)
    fresh = Run(nets, run.starts, Facts(told.most, told.lamps, told.words, told.hearing, 1))
    for _ in range(len(nets)):
        fresh.step()
    return fresh
