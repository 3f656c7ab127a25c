"""What the other modules share: integers, sequences, and the reading of texts sign by sign."""

from headsheard.errors import BadText


def is_integer(thing):
    """Whether the thing is an integer and no truth value."""
    return isinstance(thing, int) and not isinstance(thing, bool)


def is_sequence(thing, low=0, high=None):
    """Whether the thing is a list or a tuple with at least `low` and at most `high` entries."""
    if not isinstance(thing, (list, tuple)):
        return False
    return low <= len(thing) and (high is None or len(thing) <= high)


def is_couple(thing):
    return isinstance(thing, (list, tuple)) and len(thing) == 2


def as_tuples(thing):
    """The thing with tuples in place of lists, at any depth."""
    if not is_sequence(thing):
        return thing
    return tuple([as_tuples(entry) for entry in thing])


def is_digit(sign):
    """Whether the sign is a digit; the empty sign behind the end of a text is none."""
    return "0" <= sign <= "9"


def past_word(text, at, word):
    """The place behind `word`, which has to stand at `at`."""
    for k, sign in enumerate(word):
        if text[at + k:at + k + 1] != sign:
            raise BadText(at + k)
    return at + len(word)


def past_figures(text, at, most):
    """The place behind a number without sign, which has to stand at `at`; no more than `most` figures are taken."""
    if not is_digit(text[at:at + 1]):
        raise BadText(at)
    end = at + 1
    # Behind a zero ahead no figure can follow.
    while text[at] != "0" and end - at < most and is_digit(text[end:end + 1]):
        end += 1
    return end


def past_above_zero(text, at, most):
    """As past_figures, for a number above zero."""
    if text[at:at + 1] == "0":
        raise BadText(at)
    return past_figures(text, at, most)


def past_integer(text, at, most):
    """As past_figures, for an integer; its minus sign is not counted."""
    if text[at:at + 1] == "-":
        return past_above_zero(text, at + 1, most)
    return past_figures(text, at, most)
