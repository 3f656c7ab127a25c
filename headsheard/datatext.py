"""Plain data and its one text."""

from headsheard.errors import BadData, BadText
from headsheard.plain import is_integer, is_sequence, past_integer, past_word

MOST_FIGURES = 400
MOST_LETTERS = 12
MOST_DEPTH = 20
# 10 to the power of MOST_FIGURES: no power with an exponent above 64 may be written.
TOO_GREAT = (10 ** 50) ** 8


def data_text(data):
    """The text of plain data; BadData if it is none."""
    return _text_within(data, 0)


def _text_within(data, depth):
    """The text of data that stands within so many tuples."""
    if is_sequence(data):
        if depth == MOST_DEPTH:
            raise BadData()
        return "(" + " ".join([_text_within(entry, depth + 1) for entry in data]) + ")"
    if isinstance(data, str):
        if not _is_text_word(data):
            raise BadData()
        return data
    if not is_integer(data) or abs(data) >= TOO_GREAT:
        raise BadData()
    return str(data)


def _is_letter(sign):
    return "a" <= sign <= "z"


def _is_text_word(text):
    return 1 <= len(text) <= MOST_LETTERS and all([_is_letter(sign) for sign in text])


def read_data(text):
    """The data of which this is the text; BadText with the place from which on no text can be right."""
    if not isinstance(text, str):
        raise BadText(0)
    data, at = _read_within(text, 0, 0)
    if at != len(text):
        raise BadText(at)
    return data


def _read_within(text, at, depth):
    """The data that begins at `at` within so many tuples, and the place behind it."""
    sign = text[at:at + 1]
    if sign == "(" and depth < MOST_DEPTH:
        return _read_entries(text, at + 1, depth + 1)
    end = _past_letters(text, at) if _is_letter(sign) else past_integer(text, at, MOST_FIGURES)
    piece = text[at:end]
    return (piece if _is_letter(sign) else int(piece)), end


def _read_entries(text, at, depth):
    """The tuple whose opening parenthesis stands ahead of `at`, and the place behind it."""
    if text[at:at + 1] == ")":
        return (), at + 1
    first, at = _read_within(text, at, depth)
    entries = [first]
    while text[at:at + 1] == " ":
        entry, at = _read_within(text, at + 1, depth)
        entries.append(entry)
    return tuple(entries), past_word(text, at, ")")


def _past_letters(text, at):
    """The place behind the letters at `at`, of which no more are taken than a text word has."""
    end = at
    while end - at < MOST_LETTERS and _is_letter(text[end:end + 1]):
        end += 1
    return end
