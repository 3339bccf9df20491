"""Words: lists of crossings, from the top down."""

from braidcomb.errors import NoWord

FEWEST_STRINGS = 1
MOST_STRINGS = 7


def is_crossing(n, k):
    """Tell whether k is a crossing of n strings."""
    return k != 0 and abs(k) < n


def checked(n, word):
    """Be True for a word of n strings, and refuse any other one."""
    # What is refused may have more figures than can be written, so no error here tells its number.
    if n < FEWEST_STRINGS or n > MOST_STRINGS:
        raise NoWord("the number of strings is out of range")
    for k in word:
        if not is_crossing(n, k):
            raise NoWord("an entry is no crossing of so many strings")
    return True


def turned(word):
    """Tell the word from its end, each crossing with the other sign."""
    return [-k for k in reversed(word)]


def mirrored(word):
    """Tell the word with the other sign at each crossing."""
    return [-k for k in word]


def upturned(word):
    """Tell the word from its end, each crossing with its sign."""
    return list(reversed(word))


def flipped_crossing(n, k):
    """Tell a crossing as it is counted from the right, with its sign."""
    if k > 0:
        return n - k
    return -(n + k)


def flipped(n, word):
    """Tell the word with each crossing counted from the right, with its sign."""
    return [flipped_crossing(n, k) for k in word]


def trimmed(word):
    """Tell what is left when all side by side k and -k are taken out."""
    left = []
    for k in word:
        # Taking a pair out brings its neighbours together, so the end of what is left is asked each time.
        if len(left) > 0 and left[-1] == -k:
            left.pop()
        else:
            left.append(k)
    return left


def order_of(n, word):
    """Tell for each place the string that hangs there at the bottom."""
    order = list(range(n))
    for k in word:
        place = abs(k)
        held = order[place]
        order[place] = order[place - 1]
        order[place - 1] = held
    return order
