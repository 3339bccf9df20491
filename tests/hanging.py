"""What hangs there, told by whole numbers alone and without any form.

Curves around the strings' places at the top are pulled along the word. The numbers that tell them are the
same for two words just where exchanges lead from one to the other (Dynnikov's coordinates).
"""


def above(x):
    return max(x, 0)


def below(x):
    return min(x, 0)


def pulled_over(a, b, c, d):
    z = a - below(b) - c + above(d)
    return (
        a + above(b) + above(above(d) - z),
        d - above(z),
        c + below(d) + below(below(b) + z),
        b + above(z),
    )


def pulled_under(a, b, c, d):
    z = a + below(b) - c - above(d)
    return (
        a - above(b) - above(above(d) + z),
        d + below(z),
        c - below(d) - below(below(b) - z),
        b - below(z),
    )


def hanging(n, word):
    """A list of numbers that is the same for two words just where the two are the same."""
    numbers = [0, 1] * n
    for k in word:
        begin = 2 * (abs(k) - 1)
        pulled = pulled_over if k > 0 else pulled_under
        numbers[begin:begin + 4] = pulled(*numbers[begin:begin + 4])
    return numbers
