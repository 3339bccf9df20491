"""Ways: exchanges that lead from a word to another one of its form."""

from braidcomb.errors import Unlike
from braidcomb.forms import same
from braidcomb.unfolding import unfolded
from braidcomb.words import mirrored, turned


def moves_in(p, word):
    """List the exchanges that put the turned word, and the word behind it, in ahead of crossing p."""
    return [("in", p + many, -k) for many, k in enumerate(reversed(word))]


def mirrored_move(move):
    """Tell the exchange that does to a word what the move does to the mirrored word."""
    if move[0] == "in":
        return ("in", move[1], -move[2])
    return move


def moves_out(n, word):
    """List the exchanges that lead to the empty word from a word that is the same as it."""
    first = unfolded(n, word)
    # Now a word above nought stands ahead of the turned one of a word that is the same as it. Unfolded the other
    # way about, the two leave what each one lacks of their least common word, and that is nothing.
    second = unfolded(n, mirrored(first[1]))
    return first[0] + [mirrored_move(move) for move in second[0]]


def way(n, one, other):
    """List exchanges that lead from one word to the other, and refuse two words that are not the same."""
    if one == other:
        return []
    if not same(n, one, other):
        raise Unlike("the two words are not the same")
    return moves_in(len(one), other) + moves_out(n, one + turned(other))
