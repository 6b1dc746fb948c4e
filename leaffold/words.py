"""Rows of folds written as texts, and read from them."""

from leaffold.errors import NoWord
from leaffold.piles import LEVEL_SIDES, UPRIGHT_SIDES

WAYS = {"over": True, "under": False}
FIGURES = "0123456789"
MOST_FIGURES = 9


def shown(folds):
    return ", ".join([shown_fold(side, over, crease) for side, over, crease in folds])


def shown_fold(side, over, crease):
    way = "over" if over else "under"
    return f"{side} {way} {crease}"


def read(text):
    # Parting the empty text would give one empty fold.
    if text == "":
        return []
    return [read_fold(part) for part in text.split(", ")]


def read_fold(text):
    words = text.split(" ")
    if len(words) != 3 or words[0] not in UPRIGHT_SIDES + LEVEL_SIDES or words[1] not in WAYS:
        raise NoWord("a fold is a side, over or under, and a crease")
    return (words[0], WAYS[words[1]], read_crease(words[2]))


def read_crease(text):
    # Each figure is looked at, as Python reads signs, blanks and other figures too.
    if not all([figure in FIGURES for figure in text]) or len(text) > MOST_FIGURES:
        raise NoWord("a crease is one to nine figures")
    if text == "" or text.startswith("0"):
        raise NoWord("a crease is one or more, with no nought ahead")
    return int(text)
