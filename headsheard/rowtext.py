"""Net rows as texts of words with one blank between."""

from headsheard.errors import BadText
from headsheard.netrows import MOST_DEPTH, NetRow, is_name
from headsheard.nets import Net
from headsheard.plain import is_digit

MOST_FIGURES = 40
# How many numbers stand behind the word of a node, ahead of its part.
NUMBERS = {"repeat": 2, "ever": 1, "turn": 1, "swap": 2}


def row_text(net_row):
    """The text of a net row."""
    words = ["houses", str(net_row.houses)]
    for name, net in net_row.nets:
        words = words + ["net", name] + [f"{i}-{j}:{_amount_text(strength)}" for i, j, strength in net.links]
    return " ".join(words + ["row"] + _plan_words(net_row.plan))


def _amount_text(amount):
    top, bottom = amount
    return f"{top}/{bottom}"


def _plan_words(plan):
    """The words of a plan."""
    word = plan[0]
    if word == "net":
        return [plan[1]]
    if word == "then":
        return ["("] + [inner for part in plan[1:] for inner in _plan_words(part)] + [")"]
    if word == "scale":
        return [word, _amount_text(plan[1])] + _plan_words(plan[2])
    return [word] + [str(number) for number in plan[1:-1]] + _plan_words(plan[-1])


def read_row(text):
    """The net row of which this is a text."""
    words = _words_of(text)
    at = _past(words, 0, "houses")
    houses, at = _read_number(words, at)
    named, at = _read_nets(words, at)
    at = _past(words, at, "row")
    plan, at = _read_plan(words, at, 1)
    # Behind the plan only the end of the text may stand.
    if at < len(words) - 1:
        raise BadText(words[at][1])
    return NetRow([(name, Net(houses, links)) for name, links in named], plan)


def _words_of(text):
    """The words of a text, each with its place; at the end an empty one, which can stand nowhere."""
    words = []
    place = 0
    for word in text.split(" "):
        words.append((word, place))
        place += len(word) + 1
    return words + [("", len(text))]


def _past(words, at, expected):
    """The index behind a word that has to stand at `at`."""
    word, place = words[at]
    if word != expected:
        raise BadText(place)
    return at + 1


def _is_number(word):
    """Whether the word is a number with no zero ahead of others."""
    if not 1 <= len(word) <= MOST_FIGURES or not all([is_digit(sign) for sign in word]):
        return False
    return word == "0" or word[0] != "0"


def _read_number(words, at):
    """The number that has to stand at `at`, and the index behind it."""
    word, place = words[at]
    if not _is_number(word):
        raise BadText(place)
    return int(word), at + 1


def _amount_of(word):
    """The couple of numbers of a word, or None if it is not top/bottom."""
    top, _, bottom = word.partition("/")
    if not _is_number(top) or not _is_number(bottom):
        return None
    return (int(top), int(bottom))


def _read_amount(words, at):
    """The couple of numbers that has to stand at `at`, and the index behind it."""
    word, place = words[at]
    amount = _amount_of(word)
    if amount is None:
        raise BadText(place)
    return amount, at + 1


def _link_of(word):
    """The link of a word, or None if it is not i-j:top/bottom."""
    pair, _, strength = word.partition(":")
    one, _, other = pair.partition("-")
    amount = _amount_of(strength)
    if not _is_number(one) or not _is_number(other) or amount is None:
        return None
    return (int(one), int(other), amount)


def _read_nets(words, at):
    """The names and links of one or more nets that have to stand at `at`, and the index behind them."""
    named = []
    while not named or words[at][0] == "net":
        at = _past(words, at, "net")
        name, place = words[at]
        if not is_name(name):
            raise BadText(place)
        links, at = _read_links(words, at + 1)
        named.append((name, links))
    return named, at


def _read_links(words, at):
    """The links that stand at `at`, and the index behind them."""
    links = []
    link = _link_of(words[at][0])
    while link is not None:
        links.append(link)
        at += 1
        link = _link_of(words[at][0])
    return links, at


def _read_plan(words, at, depth):
    """The plan that has to begin at `at` as a node of this depth, and the index behind it."""
    word, place = words[at]
    if depth > MOST_DEPTH:
        raise BadText(place)
    if is_name(word):
        return ("net", word), at + 1
    if word == "(":
        return _read_then(words, at + 1, depth)
    if word == "scale":
        strength, at = _read_amount(words, at + 1)
        numbers = [strength]
    else:
        numbers, at = _read_numbers(words, at)
    part, at = _read_plan(words, at, depth + 1)
    return (word, *numbers, part), at


def _read_numbers(words, at):
    """The numbers behind the word of a node, and the index behind them."""
    word, place = words[at]
    if word not in NUMBERS:
        raise BadText(place)
    numbers = []
    for later in range(at + 1, at + 1 + NUMBERS[word]):
        number, at = _read_number(words, later)
        numbers.append(number)
    return numbers, at


def _read_then(words, at, depth):
    """The "then" whose parenthesis stands ahead of `at`, and the index behind it."""
    part, at = _read_plan(words, at, depth + 1)
    parts = [part]
    while words[at][0] != ")":
        part, at = _read_plan(words, at, depth + 1)
        parts.append(part)
    return ("then", *parts), at + 1
