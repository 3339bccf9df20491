"""Exchanges of neighbouring crossings, which do not change what hangs there."""

from braidcomb.errors import NoMove
from braidcomb.words import is_crossing


def has_places(word, p, many):
    """Tell whether so many crossings stand in the word from crossing p on."""
    return p >= 0 and p + many <= len(word)


def can_out(word, p):
    """Tell whether the crossings p and p + 1 can be taken out."""
    return has_places(word, p, 2) and word[p] == -word[p + 1]


def can_in(n, word, p, k):
    """Tell whether k and -k can be put in ahead of crossing p."""
    return has_places(word, p, 0) and is_crossing(n, k)


def can_far(word, p):
    """Tell whether the crossings p and p + 1 are far enough apart to change places."""
    return has_places(word, p, 2) and abs(abs(word[p]) - abs(word[p + 1])) >= 2


def can_near(word, p):
    """Tell whether the crossings from p on are a, b, a of one sign and one apart."""
    if not has_places(word, p, 3) or word[p] != word[p + 2]:
        return False
    # No crossing is nought, so two that differ by one have one sign.
    return abs(word[p] - word[p + 1]) == 1


def can_be_done(n, word, move):
    """Tell whether an exchange can be done in a word of n strings."""
    name = move[0]
    p = move[1]
    if name == "out":
        return can_out(word, p)
    if name == "in":
        return can_in(n, word, p, move[2])
    if name == "far":
        return can_far(word, p)
    return can_near(word, p)


def refuse_undoable(n, word, move):
    """Refuse an exchange that can't be done."""
    if not can_be_done(n, word, move):
        raise NoMove("the exchange can't be done there")


def moved(n, word, move):
    """Tell the word behind an exchange."""
    refuse_undoable(n, word, move)
    name = move[0]
    p = move[1]
    if name == "out":
        return word[:p] + word[p + 2:]
    if name == "in":
        return word[:p] + [move[2], -move[2]] + word[p:]
    if name == "far":
        return word[:p] + [word[p + 1], word[p]] + word[p + 2:]
    return word[:p] + [word[p + 1], word[p], word[p + 1]] + word[p + 3:]


def moves_at(word, p):
    """List the exchange that can be done at crossing p, but those that put in; there is at most one."""
    if can_out(word, p):
        return [("out", p)]
    if can_far(word, p):
        return [("far", p)]
    if can_near(word, p):
        return [("near", p)]
    return []


def moves_of(word):
    """List all exchanges that can be done, but those that put in, by rising p."""
    moves = []
    for p in range(len(word)):
        moves.extend(moves_at(word, p))
    return moves


def move_back(n, word, move):
    """Tell the exchange that leads from the word behind an exchange to the word ahead of it."""
    refuse_undoable(n, word, move)
    name = move[0]
    p = move[1]
    if name == "out":
        return ("in", p, word[p])
    if name == "in":
        return ("out", p)
    return (name, p)
