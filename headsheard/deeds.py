"""Deeds: what may be done at a desk, and of which shape it is."""

from headsheard.canon import is_whole
from headsheard.errors import BadDeed
from headsheard.plain import is_couple, is_integer, is_sequence

MOST_ROUNDS = 36
# How many entries a deed has that begins with the word.
ENTRIES = {
    "net": 2, "rounds": 3, "back": 1, "lamp": 2, "most": 2, "cut": 2, "wake": 2,
    "guess": 2, "shares": 2, "paper": 2, "ask": 3, "answer": 3, "foil": 3,
}
# The deeds for which no house may be away.
FOR_ALL = ("net", "rounds", "back", "lamp", "most")
# The deeds whose second entry is no house.
WITHOUT_HOUSE = ("net", "rounds", "back", "most")
PLAIN_QUESTIONS = ("heads", "mean", "most")


def check_deed(words, deed):
    """BadDeed unless the deed is of a shape that a deed has."""
    if not is_sequence(deed, 1) or not isinstance(deed[0], str) or ENTRIES.get(deed[0]) != len(deed):
        raise BadDeed()
    kind = deed[0]
    if has_house(deed) and not is_integer(deed[1]):
        raise BadDeed()
    if kind == "net" and not is_couple(deed[1]):
        raise BadDeed()
    if kind == "rounds" and not (isinstance(deed[1], str) and is_whole(deed[2], 1, MOST_ROUNDS)):
        raise BadDeed()
    if kind == "answer" and not _is_question(words, deed[2]):
        raise BadDeed()


def has_house(deed):
    """Whether the second entry of a deed is a house."""
    return deed[0] not in WITHOUT_HOUSE


def _is_question(words, thing):
    if not is_sequence(thing, 1, 2):
        return False
    if len(thing) == 1:
        return thing[0] in PLAIN_QUESTIONS
    return thing[0] == "share" and is_whole(thing[1], 0, words - 1)
