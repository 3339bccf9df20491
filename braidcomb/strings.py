"""Strings taken out of a word, and strings doubled to a ribbon."""

from braidcomb.errors import NoString
from braidcomb.words import MOST_STRINGS


def refuse_unknown(n, s):
    """Refuse a string that n strings don't have."""
    # What is refused may have more figures than can be written, so the error does not tell its number.
    if s < 0 or s >= n:
        raise NoString("there is no such string")


def further_from_nought(k, many):
    """Tell a crossing whose number without its sign is greater by so many (or less, with many below nought)."""
    if k > 0:
        return k + many
    return k - many


def place_behind(place, k):
    """Tell at which place a string hangs behind crossing k."""
    if place == abs(k) - 1:
        return place + 1
    if place == abs(k):
        return place - 1
    return place


def ribbon_crossings(place, k):
    """List what crossing k becomes where the string at a place is doubled."""
    wider = further_from_nought(k, 1)
    if place == abs(k) - 1:
        return [wider, k]
    if place == abs(k):
        return [k, wider]
    if place < abs(k):
        return [wider]
    return [k]


def crossings_of_others(place, k):
    """List crossing k as it is told without the string at a place; there is none where that string takes part."""
    if place_behind(place, k) != place:
        return []
    if place < abs(k):
        return [further_from_nought(k, -1)]
    return [k]


def told_along(word, s, told_at):
    """Tell a word with each crossing told anew by the place at which string s hangs ahead of it."""
    told = []
    place = s
    for k in word:
        told.extend(told_at(place, k))
        place = place_behind(place, k)
    return told


def without(n, word, s):
    """Tell the word of the other strings that is left when string s is taken out."""
    refuse_unknown(n, s)
    if n == 1:
        raise NoString("the only string can't be taken out")
    return told_along(word, s, crossings_of_others)


def doubled(n, word, s):
    """Tell the word in which two strings hang side by side in the place of string s."""
    refuse_unknown(n, s)
    if n == MOST_STRINGS:
        raise NoString("there are too many strings already")
    return told_along(word, s, ribbon_crossings)
