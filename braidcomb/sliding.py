"""Rows put one behind the other and slid towards the first one."""

from braidcomb.rows import half, starts, stops, straight, with_crossing_ahead, with_crossing_behind

# Beyond so many slides that are kept they would take more room than they save time.
MOST_KEPT = 200000


def as_bits(crossings):
    """Tell a list of crossings above nought as one number, with bit k - 1 for crossing k."""
    bits = 0
    for k in crossings:
        bits |= 1 << (k - 1)
    return bits


class Comb:
    """Rows, none of which has a crossing that could go over to the one ahead of it.

    Long words slide the same few rows over and over. So each row that was met has a number, and what
    becomes of it by one crossing is kept by that number; all of it ends with the object.
    """

    def __init__(self, n):
        self.known = []
        self.numbers = {}
        self.firsts = []
        self.lasts = []
        self.shorter = {}
        self.longer = {}
        self.kept = {}
        self.line = []
        self.none = self.number_of(straight(n))
        self.whole = self.number_of(half(n))

    def number_of(self, row):
        """Tell the number of a row; one that was not met yet gets a new one."""
        key = tuple(row)
        if key not in self.numbers:
            self.numbers[key] = len(self.known)
            self.known.append(list(row))
            self.firsts.append(as_bits(starts(row)))
            self.lasts.append(as_bits(stops(row)))
        return self.numbers[key]

    def without_first(self, number, k):
        """Tell the number of a row that loses crossing k at its begin."""
        step = (number, k)
        if step not in self.shorter:
            self.shorter[step] = self.number_of(with_crossing_ahead(self.known[number], k))
        return self.shorter[step]

    def with_last(self, number, k):
        """Tell the number of a row that gains crossing k at its end."""
        step = (number, k)
        if step not in self.longer:
            self.longer[step] = self.number_of(with_crossing_behind(self.known[number], k))
        return self.longer[step]

    def slide(self, one, other):
        """Tell the numbers of two rows once all crossings that can have gone over."""
        free = self.firsts[other] & ~self.lasts[one]
        while free > 0:
            # It does not hang on which crossing goes first; the greatest one is told by the bits at once.
            k = free.bit_length()
            one = self.with_last(one, k)
            other = self.without_first(other, k)
            free = self.firsts[other] & ~self.lasts[one]
        return (one, other)

    def slide_kept(self, one, other):
        """Tell the same as slide, from what was kept where that is there."""
        pair = (one, other)
        found = self.kept.get(pair)
        if found is None:
            found = self.slide(one, other)
            if len(self.kept) < MOST_KEPT:
                self.kept[pair] = found
        return found

    def put(self, row):
        """Put a row behind the others, and slide until no crossing can go over any more."""
        line = self.line
        line.append(self.number_of(row))
        place = len(line) - 1
        while place > 0:
            pair = self.slide_kept(line[place - 1], line[place])
            # Where nothing went over, the rows further ahead are as they were: no crossing can go there either.
            if pair[0] == line[place - 1]:
                break
            line[place - 1] = pair[0]
            line[place] = pair[1]
            place -= 1
        # Only the last row can have given all of its crossings away.
        if line[-1] == self.none:
            line.pop()

    def form_told(self):
        """Tell the form: how many rows are half turns, which all stand at the begin, and the rows behind them."""
        many = 0
        while many < len(self.line) and self.line[many] == self.whole:
            many += 1
        return (many, [list(self.known[number]) for number in self.line[many:]])
