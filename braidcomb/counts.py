"""Counts that no exchange changes."""

from braidcomb.words import order_of


def sum_of(word):
    """Tell how many more crossings are above nought than below."""
    return sum([1 if k > 0 else -1 for k in word])


def table(n, word):
    """Tell for each two strings the sum of the crossings in which the one goes over the other."""
    sums = [[0] * n for string in range(n)]
    order = list(range(n))
    for k in word:
        place = abs(k)
        left = order[place - 1]
        right = order[place]
        if k > 0:
            sums[left][right] += 1
        else:
            sums[right][left] -= 1
        order[place - 1] = right
        order[place] = left
    return sums


def ring_from(order, first):
    """List the strings that follow one another from the first one on, until it comes again."""
    ring = [first]
    string = order.index(first)
    while string != first:
        ring.append(string)
        string = order.index(string)
    return ring


def rings(n, word):
    """List the rings that come of joining the strings' ends."""
    order = order_of(n, word)
    found = []
    taken = {}
    for string in range(n):
        if string not in taken:
            ring = ring_from(order, string)
            found.append(ring)
            for each in ring:
                taken[each] = True
    return found


def sum_between(sums, one, other):
    """Add up a table's numbers for all strings of one ring over all strings of another."""
    total = 0
    for a in one:
        total += sum([sums[a][b] for b in other])
    return total


def sums_of_ring(sums, one, found):
    """List what one ring has with each of the rings found, itself among them."""
    return [sum_between(sums, one, other) for other in found]


def linked(n, word):
    """Tell for each two rings the sum of the crossings in which the one goes over the other."""
    sums = table(n, word)
    found = rings(n, word)
    return [sums_of_ring(sums, one, found) for one in found]


def profile(n, word):
    """Tell of each ring its size, what it has with itself and with the others, in rising order."""
    found = rings(n, word)
    sums = linked(n, word)
    told = []
    for place in range(len(found)):
        with_others = sums[place][:place] + sums[place][place + 1:]
        told.append((len(found[place]), sums[place][place], sorted(with_others)))
    return sorted(told)
