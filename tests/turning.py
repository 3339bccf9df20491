"""Numbers that are the same for words that are alike up to turning, told without any form.

Each crossing is a table of numbers (Burau's), and a word the product of its crossings' tables; the sum along the
slope of a product stays as it was where what stands ahead is put behind. So words with other numbers are not alike;
of words with the same numbers nothing is said.
"""

# A great prime number, and a number below it; all is counted up to multiples of the prime.
PRIME = 2 ** 61 - 1
POINT = 1234567890123


def crossing_table(n, k):
    rows = [[int(a == b) for b in range(n)] for a in range(n)]
    left, right = abs(k) - 1, abs(k)
    if k > 0:
        rows[left][left], rows[left][right] = 1 - POINT, POINT
        rows[right][left], rows[right][right] = 1, 0
    else:
        back = pow(POINT, -1, PRIME)
        rows[left][left], rows[left][right] = 0, 1
        rows[right][left], rows[right][right] = back, 1 - back
    return rows


def product(one, other):
    size = range(len(one))
    return [[sum(one[a][c] * other[c][b] for c in size) % PRIME for b in size] for a in size]


def turning(n, word):
    """A list of numbers that is the same for words that are alike."""
    whole = [[int(a == b) for b in range(n)] for a in range(n)]
    for k in word:
        whole = product(whole, crossing_table(n, k))
    found = []
    power = whole
    for _ in range(n):
        found.append(sum(power[a][a] for a in range(n)) % PRIME)
        power = product(power, whole)
    return found
