"""Rows: crossings above nought in which no two strings cross twice."""

from braidcomb.errors import NoRow
from braidcomb.words import FEWEST_STRINGS, MOST_STRINGS


def is_row(row):
    """Tell whether a list has each number from nought on once, with as many strings as are allowed."""
    if len(row) < FEWEST_STRINGS or len(row) > MOST_STRINGS:
        return False
    return sorted(row) == straight(len(row))


def checked_row(row):
    """Be True for a row, and refuse any other list."""
    # What is refused may have more figures than can be written, so the error does not tell its numbers.
    if not is_row(row):
        raise NoRow("the list is no row")
    return True


def straight(n):
    """Tell the row without crossings."""
    return list(range(n))


def half(n):
    """Tell the row in which each two strings cross."""
    return list(range(n - 1, -1, -1))


def places_of(row):
    """Tell for each string the place at which it stands in the row."""
    places = [0] * len(row)
    for place, string in enumerate(row):
        places[string] = place
    return places


def stops(row):
    """List the crossings that a word of the row can end with."""
    return [k for k in range(1, len(row)) if row[k - 1] > row[k]]


def starts(row):
    """List the crossings that a word of the row can begin with."""
    # The places of the strings are the row read from the bottom up, where begin and end change roles.
    return stops(places_of(row))


def with_crossing_behind(row, k):
    """Tell the row with the numbers at the places k - 1 and k changed: its end gains or loses crossing k."""
    return row[:k - 1] + [row[k], row[k - 1]] + row[k + 1:]


def with_crossing_ahead(row, k):
    """Tell the row with the numbers k - 1 and k changed: its begin gains or loses crossing k."""
    return places_of(with_crossing_behind(places_of(row), k))


def row_word(row):
    """Tell the first one of all words of the row in the order of lists."""
    word = []
    left = list(row)
    firsts = starts(left)
    # Each crossing of starts leads on to a whole word of the row, so the least one is always right.
    while len(firsts) > 0:
        word.append(firsts[0])
        left = with_crossing_ahead(left, firsts[0])
        firsts = starts(left)
    return word


def row_of(n, word):
    """Tell the row that a word is a word of, and refuse a word of none."""
    row = straight(n)
    for k in word:
        if k < 0:
            raise NoRow("a crossing is below nought")
        # The greater string stands to the left only where the two have crossed.
        if row[k - 1] > row[k]:
            raise NoRow("two strings cross twice")
        row = with_crossing_behind(row, k)
    return row


def ahead(row):
    """Tell the row that makes a half turn with the row behind it."""
    return [len(row) - 1 - place for place in places_of(row)]


def behind(row):
    """Tell the row that makes a half turn with the row ahead of it."""
    return list(reversed(places_of(row)))


def flipped_row(row):
    """Tell the row of the flipped words of the row."""
    return [len(row) - 1 - string for string in reversed(row)]


def free_to_go(one, other):
    """List the crossings that can go from the begin of the other row to the end of the one."""
    return [k for k in starts(other) if k not in stops(one)]


def slid(one, other):
    """Tell two rows once all crossings that can have gone from the other one over to the one."""
    first = list(one)
    second = list(other)
    free = free_to_go(first, second)
    while len(free) > 0:
        first = with_crossing_behind(first, free[0])
        second = with_crossing_ahead(second, free[0])
        free = free_to_go(first, second)
    return (first, second)
