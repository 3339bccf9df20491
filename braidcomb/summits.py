"""Forms of words that are alike up to turning, and the summit forms among them."""

from braidcomb.errors import TooMany
from braidcomb.forms import form_of_steps, past_halves, steps_of, steps_of_word, turned_step
from braidcomb.rows import half, row_word, straight
from braidcomb.words import turned


def rolled_down(n, form):
    """Tell the form of what comes when the first row is taken from ahead of the others and put behind them."""
    halves = form[0]
    rows = form[1]
    if len(rows) == 0:
        return (halves, [])
    return form_of_steps(n, steps_of(n, (halves, rows[1:] + [past_halves(halves, rows[0])])))


def rolled_up(n, form):
    """Tell the form of what comes when the last row is taken from behind the others and put ahead of them."""
    halves = form[0]
    rows = form[1]
    if len(rows) == 0:
        return (halves, [])
    return form_of_steps(n, steps_of(n, (halves, [past_halves(halves, rows[-1])] + rows[:-1])))


def word_down(form):
    """Tell the word by which a form that is rolled down is alike to the form as it was."""
    # The half turns stand ahead of the first row, so it is taken off the begin as it is once it has gone past them.
    return row_word(past_halves(form[0], form[1][0]))


def word_up(form):
    """Tell the word by which a form that is rolled up is alike to the form as it was."""
    return turned(row_word(form[1][-1]))


def height_of(form):
    """Tell a tuple that is the greater the more halves and, with as many, the fewer rows a form has."""
    return (form[0], -len(form[1]))


def climbed(n, begin, roll, word_of_roll):
    """Tell the highest form that is reached by rolling one way, and the word by which it is alike.

    To begin with, a form is handed in and the word by which it is alike, in a tuple.
    """
    best = begin
    now = begin
    # It is known that if rolling leads higher at all, it does so within as many times as a half turn has crossings.
    tries = len(row_word(half(n)))
    while tries > 0 and len(now[0][1]) > 0:
        now = (roll(n, now[0]), now[1] + word_of_roll(now[0]))
        tries -= 1
        if height_of(now[0]) > height_of(best[0]):
            best = now
            tries = len(row_word(half(n)))
    return best


def summit(n, word):
    """Tell a summit form of a word, and a word t by which the form's word is alike to the word."""
    begin = (form_of_steps(n, steps_of_word(n, word)), [])
    # Rolled down, a form gains halves until it has the most; rolled up, it loses rows and keeps its halves.
    return climbed(n, climbed(n, begin, rolled_down, word_down), rolled_up, word_up)


def turning_rows(n):
    """List all rows of n strings but the straight one."""
    rows = [[]]
    for string in range(n):
        longer = []
        for row in rows:
            longer.extend([row[:place] + [string] + row[place:] for place in range(len(row) + 1)])
        rows = longer
    return [row for row in rows if row != straight(n)]


def form_turned_by(n, form, row):
    """Tell the form of the turned word of a row, the form's word and the word of the row, one behind the other."""
    return form_of_steps(n, [turned_step(row)] + steps_of(n, form) + [(0, row)])


def key_of(form):
    """Tell a form as a thing that a dict can have as its key."""
    return (form[0], tuple([tuple(row) for row in form[1]]))


def neighbours_of(n, reached):
    """List the summit forms that a row leads to from a summit form, each with the word by which it is alike."""
    found = []
    for row in turning_rows(n):
        other = form_turned_by(n, reached[0], row)
        if height_of(other) == height_of(reached[0]):
            found.append((other, reached[1] + row_word(row)))
    return found


def refuse_too_many(found, most):
    """Refuse more summit forms than were asked for."""
    if len(found) > most:
        raise TooMany("there are more summit forms than were asked for")


def summits_reached(n, word, most):
    """List all summit forms of a word, each with the word by which it is alike, and refuse more than so many."""
    found = [summit(n, word)]
    known = {key_of(found[0][0]): True}
    refuse_too_many(found, most)
    place = 0
    # It is known that any two summit forms are joined by summit forms, each one turned by a row from the one ahead.
    while place < len(found):
        for each in neighbours_of(n, found[place]):
            key = key_of(each[0])
            if key not in known:
                known[key] = True
                found.append(each)
                refuse_too_many(found, most)
        place += 1
    return found


def summits(n, word, most=24):
    """List all summit forms of a word in rising order by their lists of rows, and refuse more than so many."""
    return sorted([each[0] for each in summits_reached(n, word, most)], key=lambda each: each[1])
