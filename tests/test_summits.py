"""Points 81 to 83: braidcomb/summits.py."""

import unittest

from braidcomb.errors import TooMany
from braidcomb.forms import form, form_word
from braidcomb.rows import ahead, flipped_row, half, row_word, straight
from braidcomb.summits import rolled_down, rolled_up, summit, summits
from braidcomb.words import checked, turned
from tests.hanging import hanging
from tests.samples import VAST, all_rows, all_words, crossings, sample_words, thrown_word
from tests.test_forms import FITTING, FormCase, thrown_form

MOST_HERE = 4
MOST_CROSSINGS = 12
LONGEST_T = 1900
SHORT = (0, 1, 2, 3, 4, 6, 9, 12)
# Words of 12 crossings with many summit forms, and how many they have.
MANY = (
    (4, [-2, -2, -2, -2, -2, 3, 1, 1, 1, 1, 1, 1], 396),
    (4, [-1, -1, 3, 2, 2, -3, -1, 2, -2, -3, -1, -3], 100),
    (4, [-1, -2, -1, -1, 3, 2, 1, -3, -3, -3, -3, -1], 104),
)


def words_here(lengths=SHORT):
    return [(n, word) for n, word in sample_words(lengths) if n <= MOST_HERE]


def half_turns(n, halves):
    return row_word(half(n)) * halves if halves >= 0 else turned(row_word(half(n))) * -halves


def word_of_rows(rows):
    return [k for row in rows for k in row_word(row)]


def flipped_where_odd(halves, row):
    return flipped_row(row) if halves % 2 else row


def word_rolled_down(n, one):
    """The word that point 82 tells, put together row by row."""
    halves, rows = one
    return half_turns(n, halves) + word_of_rows(rows[1:]) + row_word(flipped_where_odd(halves, rows[0]))


def word_rolled_up(n, one):
    halves, rows = one
    return half_turns(n, halves) + row_word(flipped_where_odd(halves, rows[-1])) + word_of_rows(rows[:-1])


def height(one):
    return (one[0], -len(one[1]))


def key(one):
    return (one[0], tuple(map(tuple, one[1])))


def turned_by(n, one, row):
    """The form of the turned word of a row, a form's word and the row's word."""
    return form(n, turned(row_word(row)) + form_word(n, one) + row_word(row))


def forms_within(n, begin):
    """All forms that rows lead to, one behind the other, with no fewer halves and no more of halves and rows."""
    least = begin[0]
    greatest = begin[0] + len(begin[1])
    found = {key(begin): begin}
    left = [begin]
    while left:
        one = left.pop()
        for row in all_rows(n):
            other = turned_by(n, one, row)
            if other[0] >= least and other[0] + len(other[1]) <= greatest and key(other) not in found:
                found[key(other)] = other
                left.append(other)
    return list(found.values())


def summits_by_trying(n, word):
    """The summit forms, by looking through all forms between those of the word's own form; no rolling is used."""
    within = forms_within(n, form(n, word))
    highest = max(height(one) for one in within)
    return sorted((one for one in within if height(one) == highest), key=lambda one: one[1])


class SummitCase(FormCase):
    def told_summit(self, n, word):
        told = self.told(summit, n, word)
        self.assertIs(type(told), tuple)
        self.assertEqual(len(told), 2)
        one, t = told
        self.told_form(lambda count: told[0], n)
        self.assertIs(type(t), list)
        self.assertIs(checked(n, t), True)
        self.assertLessEqual(len(t), LONGEST_T)
        self.assertEqual(hanging(n, turned(t) + word + t), hanging(n, form_word(n, one)))
        return told

    def told_summits(self, n, word, *most):
        told = self.told(summits, n, word, *most)
        self.assertIs(type(told), list)
        for one in told:
            self.told_form(lambda count: (one[0], [list(row) for row in one[1]]), n)
        return told


class Rolled(FormCase):
    def assert_rolled(self, n, one):
        for deed, put_together in ((rolled_down, word_rolled_down), (rolled_up, word_rolled_up)):
            told = self.told_form(deed, n, one)
            word = put_together(n, one)
            self.assertEqual(told, form(n, word))
            self.assertEqual(hanging(n, form_word(n, told)), hanging(n, word))

    def test_as_written(self):
        self.assertEqual(rolled_down(3, (0, [[1, 0, 2], [1, 2, 0]])), (1, []))
        self.assertEqual(rolled_down(3, (0, [[1, 0, 2]])), (0, [[1, 0, 2]]))
        self.assertEqual(rolled_down(3, (1, [[1, 0, 2]])), (1, [[0, 2, 1]]))
        self.assertEqual(rolled_down(3, (-1, [[1, 0, 2]])), (-1, [[0, 2, 1]]))
        self.assertEqual(rolled_up(3, (1, [[1, 0, 2]])), (1, [[0, 2, 1]]))
        self.assertEqual(rolled_up(3, (2, [[1, 0, 2]])), (2, [[1, 0, 2]]))
        self.assertEqual(rolled_up(3, (-3, [[1, 0, 2], [1, 2, 0]])), (-3, [[2, 0, 1], [1, 0, 2]]))
        self.assertEqual(rolled_up(3, (2, [[1, 0, 2], [1, 2, 0]])), (3, []))

    def test_without_rows(self):
        for n in range(1, MOST_HERE + 1):
            for halves in range(-12, 13) if n > 1 else (0,):
                self.assertEqual(self.told_form(rolled_down, n, (halves, [])), (halves, []))
                self.assertEqual(self.told_form(rolled_up, n, (halves, [])), (halves, []))

    def test_one_row(self):
        for n in (3, 4):
            for row in FITTING[n][None]:
                for halves in range(-12, 13):
                    self.assert_rolled(n, (halves, [row]))
                    rolled = (halves, [flipped_where_odd(halves, row)])
                    self.assertEqual(rolled_down(n, (halves, [row])), rolled)
                    self.assertEqual(rolled_up(n, (halves, [row])), rolled)

    def test_two_rows(self):
        for n in (3, 4):
            for one in FITTING[n][None]:
                for other in FITTING[n][tuple(one)]:
                    for halves in (-12, -1, 0, 1, 2):
                        self.assert_rolled(n, (halves, [one, other]))

    def test_many_rows(self):
        for n in (3, 4):
            for halves in (-12, -11, -3, -2, -1, 0, 1, 2, 3, 11, 12):
                for many in (3, 4, 7, 11, 12, 13):
                    for seed in range(4):
                        self.assert_rolled(n, thrown_form(n, halves, many, seed))

    def test_alike_by_the_row_that_goes(self):
        for n in (3, 4):
            for halves in (-2, -1, 0, 1):
                for many in (1, 2, 5):
                    one = thrown_form(n, halves, many)
                    word = form_word(n, one)
                    first = row_word(flipped_where_odd(halves, one[1][0]))
                    last = row_word(one[1][-1])
                    down = hanging(n, form_word(n, rolled_down(n, one)))
                    self.assertEqual(hanging(n, turned(first) + word + first), down)
                    up = hanging(n, form_word(n, rolled_up(n, one)))
                    self.assertEqual(hanging(n, last + word + turned(last)), up)


class Summit(SummitCase):
    def test_empty_word(self):
        for n in range(1, MOST_HERE + 1):
            self.assertEqual(self.told_summit(n, [])[0], (0, []))

    def test_one_crossing(self):
        for n in range(3, MOST_HERE + 1):
            for k in range(1, n):
                told = self.told_summit(n, [k])[0]
                self.assertEqual((told[0], len(told[1])), (0, 1))
                self.assertEqual(len(row_word(told[1][0])), 1)
                self.assertEqual(height(self.told_summit(n, [-k])[0]), (-1, -1))

    def test_two_strings(self):
        for length in range(MOST_CROSSINGS + 1):
            self.assertEqual(self.told_summit(2, [1] * length)[0], (length, []))
            self.assertEqual(self.told_summit(2, [-1] * length)[0], (-length, []))

    def test_by_trying(self):
        for n, longest in ((1, 0), (2, 5), (3, 4), (4, 2)):
            for word in all_words(n, longest):
                self.assertIn(self.told_summit(n, word)[0], summits_by_trying(n, word))
        for seed in range(12):
            for n, length in ((3, 7), (4, 4)):
                word = thrown_word(n, length, seed)
                self.assertIn(self.told_summit(n, word)[0], summits_by_trying(n, word))

    def test_thrown_words(self):
        for n, word in words_here():
            self.told_summit(n, word)
        for n in (2, 3, 4):
            for seed in range(60):
                self.told_summit(n, thrown_word(n, MOST_CROSSINGS, seed))
        for n, word, _ in MANY:
            self.told_summit(n, word)

    def test_none_is_higher(self):
        for n in (2, 3, 4):
            for seed in range(6):
                word = thrown_word(n, MOST_CROSSINGS, seed)
                told = self.told_summit(n, word)[0]
                for begin in (form(n, word), told):
                    for row in all_rows(n):
                        one = turned_by(n, begin, row)
                        self.assertLessEqual(height(one), height(told))
                        for other in (rolled_down(n, one), rolled_up(n, one)):
                            self.assertLessEqual(height(other), height(told))
                for length in (2, 3, 4, 5, 6, 7, 8):
                    t = thrown_word(n, length, seed)
                    self.assertLessEqual(height(form(n, turned(t) + word + t)), height(told))

    def test_turned_words_have_summits_of_one_height(self):
        for n in range(1, MOST_HERE + 1):
            for length in (0, 1, 2, 4, 6):
                for seed in range(12):
                    word = thrown_word(n, length, seed)
                    for t in (thrown_word(n, 1, seed), thrown_word(n, 3, seed), [abs(k) for k in thrown_word(n, 3, seed)]):
                        other = turned(t) + word + t
                        self.assertLessEqual(len(other), MOST_CROSSINGS)
                        self.assertEqual(height(self.told_summit(n, other)[0]), height(summit(n, word)[0]))

    def test_whole_turns_under_turning(self):
        turn = row_word(half(3))
        for t in ([1], [1, 1], [2, -1], [1, 2, 2]):
            self.assertEqual(self.told_summit(3, turned(t) + turn * 2 + t)[0], (2, []))
        for k in crossings(4):
            self.assertEqual(self.told_summit(4, [-k] + row_word(half(4)) + [k])[0], (1, []))

    def test_words_far_from_their_summit(self):
        for n, word in (
            (3, [-1, -1, -1, -1, -1, 2, 1, 1, 1, 1, 1]), (4, [-1, -2, -1, -3, -3, 1, 2, 3, 3, 1, 2, 1]),
            (4, [-3, 2, -1, -1, -2, 3, 2, 1, 1, -2, 3]), (4, [-1, -1, -1, -1, -1, 2, 3, 1, 1, 1, 1, 1]),
            (4, [1, 1, 1, 1, 1, 3, -2, -1, -1, -1, -1, -1]),
        ):
            one = self.told_summit(n, word)[0]
            self.assertLess(len(one[1]), len(form(n, word)[1]))


class Summits(SummitCase):
    def test_as_written(self):
        self.assertEqual(summits(1, []), [(0, [])])
        self.assertEqual(summits(2, [1, 1, 1]), [(3, [])])
        self.assertEqual(summits(3, [1]), [(0, [[0, 2, 1]]), (0, [[1, 0, 2]])])
        self.assertEqual(summits(3, [2, 1]), [(0, [[1, 2, 0]]), (0, [[2, 0, 1]])])
        self.assertEqual(summits(3, [1, -2, 1, 2, 1, 2, -1]), [(1, [])])
        self.assertEqual(
            summits(4, [2]), [(0, [[0, 1, 3, 2]]), (0, [[0, 2, 1, 3]]), (0, [[1, 0, 2, 3]])],
        )

    def test_empty_word(self):
        for n in range(1, MOST_HERE + 1):
            self.assertEqual(self.told_summits(n, []), [(0, [])])

    def test_by_trying(self):
        for n, longest in ((1, 0), (2, 5), (3, 4), (4, 2)):
            for word in all_words(n, longest):
                self.assertEqual(self.told_summits(n, word, VAST), summits_by_trying(n, word))
        for seed in range(12):
            for n, length in ((3, 7), (4, 4)):
                word = thrown_word(n, length, seed)
                self.assertEqual(summits(n, word, 1000), summits_by_trying(n, word))

    def test_list_as_told(self):
        for n, word in words_here() + [each[:2] for each in MANY]:
            told = self.told_summits(n, word, 1000)
            rows = [one[1] for one in told]
            self.assertEqual(rows, sorted(rows))
            self.assertEqual(len({key(one) for one in told}), len(told))
            self.assertEqual({height(one) for one in told}, {height(summit(n, word)[0])})
            self.assertIn(summit(n, word)[0], told)

    def test_words_that_are_alike_have_one_list(self):
        for n in range(1, MOST_HERE + 1):
            for length in (0, 1, 2, 4, 6):
                for seed in range(8):
                    word = thrown_word(n, length, seed)
                    told = summits(n, word, 1000)
                    for t in (thrown_word(n, 1, seed), thrown_word(n, 3, seed)):
                        self.assertEqual(self.told_summits(n, turned(t) + word + t, 1000), told)
            for seed in range(5):
                word = thrown_word(n, MOST_CROSSINGS, seed)
                told = summits(n, word, 1000)
                for place in range(len(word)):
                    self.assertEqual(summits(n, word[place:] + word[:place], 1000), told)

    def test_each_one_has_the_same_list(self):
        for n, word in ((3, [1, 1, -2]), (4, [1, 2, -3]), (4, [1, 3, -2, -2]), (4, [1, 1, 2, 3])):
            told = summits(n, word, 1000)
            for one in told:
                self.assertEqual(summits(n, form_word(n, one), 1000), told)

    def test_no_row_leads_out_of_the_list(self):
        for n, word in words_here((3, 6, 9)):
            told = summits(n, word, 1000)
            known = {key(one) for one in told}
            for one in told:
                for row in all_rows(n):
                    other = turned_by(n, one, row)
                    self.assertTrue(key(other) in known or height(other) < height(one))

    def test_most(self):
        for n, word in words_here((0, 1, 3, 6, 9)):
            told = summits(n, word, 1000)
            for most in (len(told), len(told) + 1, 10 ** 30, VAST):
                self.assertEqual(self.told_summits(n, word, most), told)
            for most in (len(told) - 1, 0, -1, -24, -10 ** 30, -VAST):
                self.refused(TooMany, summits, n, word, most)

    def test_most_left_out(self):
        for n, word, many in (
            (4, [2, -1, 2, 1, -1, -1], 24), (4, [-3, -1, -2, 1, -2, 1, -2, -1, -3, -2, -1, -1], 24),
        ):
            self.assertEqual(len(summits(n, word, many)), many)
            self.assertEqual(summits(n, word), summits(n, word, many))
        for n, word in ((4, [-3, 2, 3, -1, 3, 3, -2, -2, -1]), (4, [-2, -2, -2, 1, -3, 1])):
            self.assertIn(len(summits(n, word, 1000)), (26, 28))
            self.refused(TooMany, summits, n, word)

    def test_words_with_many(self):
        for n, word, many in MANY:
            self.assertEqual(len(self.told_summits(n, word, many)), many)
            self.refused(TooMany, summits, n, word, many - 1)
            self.refused(TooMany, summits, n, word)

    def test_rows_turned_ahead_and_behind(self):
        # A form of one row has all summit forms among the forms of one row; some are the row flipped.
        for row in FITTING[4][None]:
            told = summits(4, row_word(row), 1000)
            if height(told[0]) == (0, -1):
                self.assertIn((0, [row]), told)
                self.assertIn((0, [flipped_row(row)]), told)
            self.assertEqual(height(summit(4, turned(row_word(row)))[0]), height((-1, [ahead(row)])))
            self.assertNotIn((0, [straight(4)]), told)


if __name__ == "__main__":
    unittest.main()
