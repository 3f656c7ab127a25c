"""Stories: deeds and desks as texts."""

from headsheard.canon import MOST_WORDS
from headsheard.datatext import data_text, read_data
from headsheard.desk import MOST_ROUNDS, PLAIN_QUESTIONS, Desk
from headsheard.errors import BadDeed, BadStory, HeadError
from headsheard.facts import MOST_TOLD
from headsheard.nets import MOST_HOUSES, Net
from headsheard.plain import is_couple, is_sequence
from headsheard.rowtext import read_row, row_text
from headsheard.sayings import read_saying, saying_text


def print_deeds(deeds):
    """The deeds as a text, a line for each."""
    return "\n".join([_line_of(deed) for deed in deeds])


def _line_of(deed):
    kind = deed[0]
    if kind == "net":
        houses, links = deed[1]
        return "net " + data_text(Net(houses, links).told)
    if kind == "rounds":
        return f"rounds {deed[2]} {deed[1]}"
    if kind == "most":
        return "most none" if deed[1] is None else f"most {deed[1]}"
    if kind in ("ask", "foil"):
        return f"{kind} {deed[1]} {saying_text(deed[2])}"
    if kind == "answer":
        return " ".join([kind, str(deed[1])] + [str(part) for part in deed[2]])
    return " ".join([str(part) for part in deed])


def read_deeds(text):
    """The deeds of which this is the text; BadStory with the first line that is of no deed."""
    if text == "":
        return ()
    return tuple([_deed_of_line(line, at) for at, line in enumerate(text.split("\n"))])


def _deed_of_line(line, at):
    try:
        return _read_line(line)
    except HeadError:
        raise BadStory(at) from None


def _read_line(line):
    """The deed of a line; some error of the package if it is the line of none."""
    kind, blank, rest = line.partition(" ")
    if kind == "back" and blank == "":
        return (kind,)
    if kind == "net":
        return (kind, _read_net(rest))
    if kind == "rounds":
        return _read_rounds(rest)
    if kind == "most":
        return (kind, None if rest == "none" else _read_number(rest, 1, MOST_TOLD))
    if kind in ("lamp", "cut", "wake", "guess", "shares", "paper"):
        return (kind, _read_number(rest, 0, MOST_HOUSES - 1))
    house, _, behind = rest.partition(" ")
    if kind in ("ask", "foil"):
        return (kind, _read_number(house, 0, MOST_HOUSES - 1), read_saying(MOST_WORDS, behind))
    if kind == "answer":
        return (kind, _read_number(house, 0, MOST_HOUSES - 1), _read_question(behind))
    raise BadDeed()


def _read_number(text, low, high):
    for number in range(low, high + 1):
        if text == str(number):
            return number
    raise BadDeed()


def _read_net(text):
    """What is told of the net of which this is the text."""
    data = read_data(text)
    if not is_couple(data):
        raise BadDeed()
    houses, links = data
    # A net tells its links in their order.
    if Net(houses, links).told != data:
        raise BadDeed()
    return data


def _read_rounds(text):
    many, _, row = text.partition(" ")
    # The same net row may be read from other texts, too.
    if row_text(read_row(row)) != row:
        raise BadDeed()
    return ("rounds", row, _read_number(many, 1, MOST_ROUNDS))


def _read_question(text):
    if text in PLAIN_QUESTIONS:
        return (text,)
    kind, _, word = text.partition(" ")
    if kind != "share":
        raise BadDeed()
    return (kind, _read_number(word, 0, MOST_WORDS - 1))


def put_away(desk):
    """The desk as a text."""
    head = "desk " + data_text((desk.starts, desk.words, desk.most or 0))
    nets = [("net", net.told) for net in desk.course]
    return "\n".join([head] + [_line_of(deed) for deed in nets + [("cut", house) for house in desk.away]])


def taken_up(text):
    """The desk of which this is the text; BadStory with the first line that can not stand there."""
    lines = text.split("\n")
    desk = _desk_of_line(lines[0])
    for at, line in enumerate(lines[1:], start=1):
        deed = _deed_of_line(line, at)
        if not _may_follow(desk, deed):
            raise BadStory(at)
        try:
            desk.do_deed(deed)
        except HeadError:
            raise BadStory(at) from None
    return desk


def _may_follow(desk, deed):
    """Whether a deed is one by which a desk is kept, and no cut of a house below one that is away."""
    if deed[0] == "cut":
        return len(desk.away) == 0 or deed[1] > desk.away[-1]
    # A net behind a cut is refused by the desk itself.
    return deed[0] == "net"


def _desk_of_line(line):
    kind, _, rest = line.partition(" ")
    try:
        data = read_data(rest)
        if kind != "desk" or not is_sequence(data, 3, 3):
            raise BadDeed()
        starts, words, most = data
        return Desk(starts, words, None if most == 0 else most)
    except HeadError:
        raise BadStory(0) from None
