"""Forms: half turns and rows, one form for all words that are the same."""

from braidcomb.errors import NoForm
from braidcomb.rows import ahead, flipped_row, free_to_go, half, is_row, row_of, row_word, straight
from braidcomb.sliding import Comb
from braidcomb.words import trimmed, turned


def refuse_unsound_row(n, row):
    """Refuse what can't be a row of a form of n strings, whatever stands ahead of it."""
    # The length is asked by itself: a row of another number of strings is a row, too.
    if len(row) != n or not is_row(row):
        raise NoForm("a list is no row of so many strings")
    if row == straight(n) or row == half(n):
        raise NoForm("a row is straight or a half turn")


def checked_form(n, form):
    """Be True for a sound form, and refuse any other one."""
    halves = form[0]
    rows = form[1]
    if n == 1 and halves != 0:
        raise NoForm("one string makes no half turn")
    for row in rows:
        refuse_unsound_row(n, row)
    for place in range(1, len(rows)):
        if len(free_to_go(rows[place - 1], rows[place])) > 0:
            raise NoForm("a crossing could go over to the row ahead")
    return True


def form_word(n, form):
    """Tell the word of a form."""
    turn = row_word(half(n))
    if form[0] < 0:
        word = turned(turn) * -form[0]
    else:
        word = turn * form[0]
    for row in form[1]:
        word.extend(row_word(row))
    return word


def cut(n, word):
    """Cut a word into words of one sign each in which no two strings cross twice."""
    pieces = []
    order = straight(n)
    sign_above = False
    for k in word:
        place = abs(k)
        if len(pieces) == 0 or sign_above != (k > 0) or order[place - 1] > order[place]:
            pieces.append([])
            order = straight(n)
            sign_above = k > 0
        pieces[-1].append(k)
        held = order[place]
        order[place] = order[place - 1]
        order[place - 1] = held
    return pieces


def turned_step(row):
    """Tell a row's turned word as half turns and a row behind them."""
    # A row behind the one ahead of it makes a half turn, so a half turn less and that one take the row back.
    return (-1, ahead(row))


def step_of(n, piece):
    """Tell a word that cut has told as half turns and a row behind them."""
    if piece[0] > 0:
        return (0, row_of(n, piece))
    return turned_step(row_of(n, turned(piece)))


def steps_of(n, form):
    """Tell a form as a list of steps, each of half turns and a row behind them."""
    return [(form[0], straight(n))] + [(0, row) for row in form[1]]


def past_halves(halves, row):
    """Tell what a row becomes when it goes past so many half turns."""
    # Each half turn flips the row, and two of them leave it as it was.
    if halves % 2 == 0:
        return list(row)
    return flipped_row(row)


def rows_behind_halves(steps):
    """Tell the rows that the steps have once all their half turns have gone to the begin."""
    rows = []
    halves = 0
    for step in reversed(steps):
        rows.append(past_halves(halves, step[1]))
        halves += step[0]
    rows.reverse()
    return rows


def form_of_steps(n, steps):
    """Tell the form of steps, one behind the other."""
    comb = Comb(n)
    for row in rows_behind_halves(steps):
        comb.put(row)
    found = comb.form_told()
    return (found[0] + sum([step[0] for step in steps]), found[1])


def steps_of_word(n, word):
    """Tell a word as a list of steps, each of half turns and a row behind them."""
    return [step_of(n, piece) for piece in cut(n, trimmed(word))]


def form(n, word):
    """Tell the one sound form whose word is the same as the word."""
    return form_of_steps(n, steps_of_word(n, word))


def same(n, one, other):
    """Tell whether exchanges lead from one word to the other."""
    return form(n, one) == form(n, other)


def form_joined(n, one, other):
    """Tell the form of the word of one form and behind it that of another one."""
    return form_of_steps(n, steps_of(n, one) + steps_of(n, other))


def form_turned(n, one):
    """Tell the form of the turned word of a form's word."""
    steps = [turned_step(row) for row in reversed(one[1])]
    return form_of_steps(n, steps + [(-one[0], straight(n))])
