"""Words as texts, written and read."""

from braidcomb.errors import BadText
from braidcomb.words import checked

# A dict and not isdigit or int: those take more signs than the ten plain figures.
FIGURES = {"0": 0, "1": 1, "2": 2, "3": 3, "4": 4, "5": 5, "6": 6, "7": 7, "8": 8, "9": 9}


def written(n, word):
    """Write a word of n strings as a text."""
    return f"{n}:" + "".join([f" {k}" for k in word])


def read_crossing(piece):
    """Read one crossing, of whatever number of strings."""
    if piece.startswith("-"):
        return -read_number(piece[1:])
    return read_number(piece)


def read_number(piece):
    """Read a figure from 1 to 9."""
    number = FIGURES.get(piece, 0)
    if number == 0:
        raise BadText("a crossing is a figure from 1 to 9, with or without a minus sign")
    return number


def read_crossings(tail):
    """Read what stands behind the colon."""
    if tail != "" and not tail.startswith(" "):
        raise BadText("a blank is missing behind the colon")
    return [read_crossing(piece) for piece in tail.split(" ") if piece != ""]


def read_text(text):
    """Read the number of strings and the word that a text writes."""
    # Only blanks are passed over at the ends: a bare strip would take line feeds, too.
    parts = text.strip(" ").partition(":")
    if parts[1] == "" or parts[0] not in FIGURES:
        raise BadText("a text begins with one figure and a colon straight behind it")
    n = FIGURES[parts[0]]
    # The whole text is read ahead of the check, since BadText goes ahead of NoWord.
    word = read_crossings(parts[2])
    checked(n, word)
    return (n, word)
