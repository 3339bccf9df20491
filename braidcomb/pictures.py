"""Pictures: words drawn line by line, and read again."""

from braidcomb.errors import BadPicture
from braidcomb.words import FEWEST_STRINGS, MOST_STRINGS

PLAIN = "|"
OVER = "o"
UNDER = "u"


def plain_signs(n):
    """List the signs of a line without crossings."""
    return [PLAIN] * n


def line_of(signs):
    """Tell a line, without the line feed at its end."""
    return " ".join(signs)


def pair_of(k):
    """Tell the two signs of a crossing."""
    if k > 0:
        return [OVER, UNDER]
    return [UNDER, OVER]


def grouped(word):
    """Put the crossings into groups, one for each line; in each group they stand from left to right, apart."""
    groups = []
    for k in word:
        # A group rises from left to right, so its last crossing is the one that could be too near.
        if len(groups) == 0 or abs(k) - abs(groups[-1][-1]) < 2:
            groups.append([])
        groups[-1].append(k)
    return groups


def signs_of(n, group):
    """List the signs of a line with the crossings of a group."""
    signs = plain_signs(n)
    for k in group:
        pair = pair_of(k)
        signs[abs(k) - 1] = pair[0]
        signs[abs(k)] = pair[1]
    return signs


def picture(n, word):
    """Draw a word of n strings as a text of lines."""
    lines = [line_of(plain_signs(n))] + [line_of(signs_of(n, group)) for group in grouped(word)]
    return "".join([line + "\n" for line in lines])


def read_signs(line):
    """Read the signs of a line, whatever they are."""
    signs = list(line[::2])
    # Drawn again, the signs show whether just one blank stood between each two of them.
    if line_of(signs) != line:
        raise BadPicture("the signs of a line have not one blank between them")
    return signs


def read_first(line):
    """Read the number of strings from the first line."""
    signs = read_signs(line)
    n = len(signs)
    if n < FEWEST_STRINGS or n > MOST_STRINGS or signs != plain_signs(n):
        raise BadPicture("the first line does not draw strings side by side")
    return n


def read_crossing_at(signs, place):
    """Read the crossing whose left sign stands at a place."""
    pair = signs[place:place + 2]
    for k in (place + 1, -(place + 1)):
        if pair == pair_of(k):
            return k
    raise BadPicture("a sign has not its neighbour")


def read_line(n, line):
    """Read the crossings of a line from left to right."""
    signs = read_signs(line)
    if len(signs) != n:
        raise BadPicture("a line is shorter or longer than the first one")
    word = []
    place = 0
    while place < n:
        if signs[place] == PLAIN:
            place += 1
        else:
            word.append(read_crossing_at(signs, place))
            place += 2
    return word


def read_picture(text):
    """Read the number of strings and the word that a text draws."""
    if not text.endswith("\n"):
        raise BadPicture("the last line has no line feed at its end")
    lines = text[:-1].split("\n")
    n = read_first(lines[0])
    word = []
    for line in lines[1:]:
        word.extend(read_line(n, line))
    return (n, word)
