"""Words unfolded: all crossings above nought ahead of all those below."""

from braidcomb.moves import moved


def moves_past(p, one, other):
    """List the exchanges that change the crossings p and p + 1, which can't stay as they are."""
    if one == -other:
        return [("out", p)]
    if abs(one + other) >= 2:
        return [("far", p)]
    # -i, j becomes -i, j, i, j, -j, -i and so j, i, -j, -i. The word grows by it, but not without end: any two words
    # above nought can be filled up to a common one, and what they lack of the least one is what comes of them.
    return [("in", p + 2, -one), ("in", p + 3, other), ("near", p + 1), ("out", p)]


def has_to_change(one, other):
    """Tell whether two crossings that stand side by side can't stay as they are."""
    # A pair that can be taken out need not be, where the one above nought stands ahead; but then less is left to do.
    return one == -other or (one < 0 and other > 0)


def unfolded(n, word):
    """Tell exchanges, and the word to which they lead: there all crossings above nought stand ahead of those below."""
    moves = []
    now = list(word)
    p = 0
    while p + 1 < len(now):
        if has_to_change(now[p], now[p + 1]):
            for move in moves_past(p, now[p], now[p + 1]):
                now = moved(n, now, move)
                moves.append(move)
            # The crossing ahead of the two has a new neighbour now; those ahead of that one have their old ones.
            p = max(p - 1, 0)
        else:
            p += 1
    return (moves, now)
