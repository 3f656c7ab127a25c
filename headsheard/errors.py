"""The errors of the package: each stands straight under HeadError."""


class HeadError(ValueError):
    """The base of all errors of the package."""


class BadStrength(HeadError):
    """A thing is no strength, or an amount can not be taken from or shared by another."""

    def __init__(self, what):
        self.what = what


class BadCounts(HeadError):
    """A thing is no counts, or counts can not be taken from others."""

    def __init__(self, what):
        self.what = what


class BadFacts(HeadError):
    """Facts are wrong, or counts do not fit them."""

    def __init__(self, what):
        self.what = what


class BadData(HeadError):
    """A thing is no plain data."""


class BadText(HeadError):
    """A text can not be right from this place on."""

    def __init__(self, place):
        self.place = place


class BadNet(HeadError):
    """A thing is no net."""

    def __init__(self, what, at):
        self.what = what
        self.at = at


class UnlikeNets(HeadError):
    """Two nets have unlike numbers of houses."""


class BadRow(HeadError):
    """Nets and a plan are no net row."""

    def __init__(self, what, trail):
        self.what = what
        self.trail = trail


class NoNet(HeadError):
    """There is no net for this round."""

    def __init__(self, number):
        self.number = number


class TooLong(HeadError):
    """The span of a net row is too long."""

    def __init__(self, span):
        self.span = span


class BadStarts(HeadError):
    """A thing is no sequence of starts."""

    def __init__(self, what, at):
        self.what = what
        self.at = at


class WrongNet(HeadError):
    """A net has another number of houses."""

    def __init__(self, houses):
        self.houses = houses


class NoHouse(HeadError):
    """There is no such house."""

    def __init__(self, house):
        self.house = house


class NoLevel(HeadError):
    """There is no such level."""

    def __init__(self, level):
        self.level = level


class NoClass(HeadError):
    """A level has no such class."""

    def __init__(self, number):
        self.number = number


class BadView(HeadError):
    """A thing is no view."""

    def __init__(self, what, level, node):
        self.what = what
        self.level = level
        self.node = node


class NoNode(HeadError):
    """A level of a view has no such node."""

    def __init__(self, level, node):
        self.level = level
        self.node = node


class NotOneRound(HeadError):
    """A view is of another round."""

    def __init__(self, at):
        self.at = at


class WrongLetter(HeadError):
    """A thing is no letter that a house may hear."""

    def __init__(self, what):
        self.what = what


class WrongFacts(HeadError):
    """A letter has other facts."""

    def __init__(self, at):
        self.at = at


class BadStart(HeadError):
    """A thing is no start, or does not fit the facts."""


class NotJoined(HeadError):
    """The net of this round is not joined."""

    def __init__(self, number):
        self.number = number


class BadLamps(HeadError):
    """A number of lamps is wrong."""

    def __init__(self, lamps):
        self.lamps = lamps


class BadHouses(HeadError):
    """A number of houses is wrong."""

    def __init__(self, houses):
        self.houses = houses


class NeedsSums(HeadError):
    """The houses would have to hear sums."""


class NeedsLamp(HeadError):
    """Just one house would have to bear a lamp."""


class NotNext(HeadError):
    """A view is not of the round that is due."""

    def __init__(self, due):
        self.due = due


class NotSame(HeadError):
    """A view is not of the house that was looked at."""

    def __init__(self, due):
        self.due = due


class NeedsMost(HeadError):
    """A bound on the houses would have to be told."""


class NoHeads(HeadError):
    """A number of heads is wrong."""

    def __init__(self, heads):
        self.heads = heads


class NoWorld(HeadError):
    """A view has no world."""


class BadStubs(HeadError):
    """Things are no stubs, or have unlike totals."""

    def __init__(self, what):
        self.what = what


class BadTeller(HeadError):
    """Words and a table are no teller."""

    def __init__(self, what, at):
        self.what = what
        self.at = at


class BadTwins(HeadError):
    """Counts have no twins of this kind."""

    def __init__(self, what):
        self.what = what


class BadSaying(HeadError):
    """A thing is no saying."""

    def __init__(self, what):
        self.what = what


class BadDeed(HeadError):
    """A thing is no deed."""


class Away(HeadError):
    """A house is away."""

    def __init__(self, house):
        self.house = house


class NotAway(HeadError):
    """A house is not away."""

    def __init__(self, house):
        self.house = house


class FullDesk(HeadError):
    """A desk has no room for more rounds."""


class BadStory(HeadError):
    """A line of a story can not be right."""

    def __init__(self, line):
        self.line = line
