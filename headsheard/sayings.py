"""Sayings about how many houses bear each word."""

from headsheard.canon import heads_of, is_whole
from headsheard.errors import BadSaying, BadText
from headsheard.plain import as_tuples, is_couple, is_digit, is_sequence
from headsheard.plain import past_above_zero, past_integer, past_word

HEADS = -1
MOST_LEVEL = 4
MOST_TERMS = 5
MOST_PARTS = 4
MOST_FACTOR = 999
MOST_NUMBER = 999999
FACTOR_FIGURES = 3
NUMBER_FIGURES = 6
# How many entries a saying has that begins with the word.
ENTRIES = {"most": 3, "same": 3, "not": 2, "and": 2, "or": 2}
COMPARED = ("most", "same")
JOINED = ("and", "or")


def check_saying(words, saying):
    """The saying as tuples through and through; BadSaying with its first fault."""
    _check_within(words, saying, 1)
    return as_tuples(saying)


def _check_within(words, saying, level):
    """Raise the first fault of a saying of this level."""
    _check_form(saying)
    kind, inner = saying[0], saying[1]
    if kind in COMPARED:
        _check_comparison(words, inner, saying[2])
        return
    if level == MOST_LEVEL:
        raise BadSaying("deep")
    if kind in JOINED and not is_sequence(inner, 1, MOST_PARTS):
        raise BadSaying("saying")
    for part in _parts_of(saying):
        _check_within(words, part, level + 1)


def _check_form(saying):
    """Raise "saying" if this does not begin with a word of sayings, or has not as many entries as that asks."""
    if not is_sequence(saying, 1) or not isinstance(saying[0], str):
        raise BadSaying("saying")
    if ENTRIES.get(saying[0]) != len(saying):
        raise BadSaying("saying")


def _check_comparison(words, terms, number):
    """Raise the first fault of the terms and the number of a comparison."""
    if not is_sequence(terms, 1, MOST_TERMS) or not all([is_couple(term) for term in terms]):
        raise BadSaying("terms")
    for factor, word in terms:
        if not is_whole(factor, -MOST_FACTOR, MOST_FACTOR) or factor == 0:
            raise BadSaying("factor")
        if not is_whole(word, HEADS, words - 1):
            raise BadSaying("word")
    if not is_whole(number, -MOST_NUMBER, MOST_NUMBER):
        raise BadSaying("number")


def _parts_of(saying):
    """The sayings in a saying that is no comparison, left to right."""
    return [saying[1]] if saying[0] == "not" else list(saying[1])


def holds(saying, counts):
    """Whether the saying is true of the counts."""
    kind = saying[0]
    if kind in COMPARED:
        worth = sum([factor * _borne(word, counts) for factor, word in saying[1]])
        return worth <= saying[2] if kind == "most" else worth == saying[2]
    truths = [holds(part, counts) for part in _parts_of(saying)]
    if kind == "not":
        return not truths[0]
    return all(truths) if kind == "and" else any(truths)


def _borne(word, counts):
    """How many houses bear the word; all houses for HEADS."""
    if word == HEADS:
        return heads_of(counts)
    return sum([count for start, count in counts if start[1] == word])


def saying_text(saying):
    """The text of a saying."""
    kind = saying[0]
    if kind in COMPARED:
        terms = [_term_text(at, term) for at, term in enumerate(saying[1])]
        return "".join(terms) + ("<=" if kind == "most" else "=") + str(saying[2])
    return kind + "(" + ",".join([saying_text(part) for part in _parts_of(saying)]) + ")"


def _term_text(at, term):
    """The text of a term that has this place among the terms."""
    factor, word = term
    ahead = "+" if at > 0 else ""
    borne = "heads" if word == HEADS else f"count({word})"
    return ("-" if factor < 0 else ahead) + str(abs(factor)) + "*" + borne


def read_saying(words, text):
    """The saying of which this is the text; BadText with the place from which on no text can be right."""
    saying, at = _read_within(words, text, 0, 1)
    if at != len(text):
        raise BadText(at)
    return saying


def _read_within(words, text, at, level):
    """The saying of this level that begins at `at`, and the place behind it."""
    if level < MOST_LEVEL:
        for kind in ("not", "and", "or"):
            # The first letters of the three words are unlike.
            if text[at:at + 1] == kind[0]:
                parts, at = _read_parts(words, text, past_word(text, at, kind + "("), level, kind)
                return (kind, parts[0] if kind == "not" else parts), past_word(text, at, ")")
    return _read_comparison(words, text, at)


def _read_parts(words, text, at, level, kind):
    """The tuple of the sayings behind the opening parenthesis, and the place behind them."""
    first, at = _read_within(words, text, at, level + 1)
    parts = [first]
    while kind != "not" and len(parts) < MOST_PARTS and text[at:at + 1] == ",":
        part, at = _read_within(words, text, at + 1, level + 1)
        parts.append(part)
    return tuple(parts), at


def _read_comparison(words, text, at):
    """The comparison that begins at `at`, and the place behind it."""
    term, at = _read_term(words, text, at, text[at:at + 1] == "-")
    terms = [term]
    while len(terms) < MOST_TERMS and text[at:at + 1] in ("+", "-"):
        term, at = _read_term(words, text, at, True)
        terms.append(term)
    kind = "most" if text[at:at + 1] == "<" else "same"
    at = past_word(text, at, "<=" if kind == "most" else "=")
    end = past_integer(text, at, NUMBER_FIGURES)
    return (kind, tuple(terms), int(text[at:end])), end


def _read_term(words, text, at, signed):
    """The term that begins at `at`, with its sign if there is one, and the place behind it."""
    first = at + 1 if signed else at
    end = past_above_zero(text, first, FACTOR_FIGURES)
    word, past = _read_word(words, text, past_word(text, end, "*"))
    return (int(text[at:end]), word), past


def _read_word(words, text, at):
    """The word of a term, or HEADS, and the place behind it."""
    if text[at:at + 1] == "h":
        return HEADS, past_word(text, at, "heads")
    at = past_word(text, at, "count(")
    sign = text[at:at + 1]
    if not is_digit(sign) or int(sign) >= words:
        raise BadText(at)
    return int(sign), past_word(text, at + 1, ")")


def both_sayings(one, other):
    """The saying that both hold."""
    return ("and", (as_tuples(one), as_tuples(other)))
