"""Points 41 to 44: braidcomb/forms.py."""

import unittest

from braidcomb.counts import sum_of
from braidcomb.errors import NoForm
from braidcomb.forms import checked_form, form, form_joined, form_turned, form_word, same
from braidcomb.moves import moved
from braidcomb.rows import flipped_row, half, row_word, starts, stops, straight
from braidcomb.words import flipped, mirrored, order_of, turned
from tests.hanging import hanging
from tests.samples import (
    MOST_STRINGS, VAST, BraidCase, Dice, all_rows, all_words, crossings, every_move, sample_words, thrown_row,
    thrown_rows, thrown_word, walk,
)

SHORT = (0, 1, 2, 3, 4, 5, 9, 40)
HALVES = (-1000, -999, -3, -2, -1, 0, 1, 2, 3, 999, 1000)


def is_sound(n, told):
    """Point 41, asked place by place."""
    halves, rows = told
    if n == 1 and halves != 0:
        return False
    for row in rows:
        if sorted(row) != list(range(n)) or row in (straight(n), half(n)):
            return False
    for one, other in zip(rows, rows[1:]):
        if not set(starts(other)) <= set(stops(one)):
            return False
    return True


def fitting_rows(n):
    """The rows that a form may have, by the row ahead of them; with None those that may stand first."""
    inner = [row for row in all_rows(n) if row not in (straight(n), half(n))]
    fitting = {None: inner}
    for one in inner:
        fitting[tuple(one)] = [other for other in inner if set(starts(other)) <= set(stops(one))]
    return fitting


FITTING = {n: fitting_rows(n) for n in range(1, 6)}


def without_first(row, k):
    """The row that is left when crossing k is taken off its begin."""
    swap = {k - 1: k, k: k - 1}
    return [swap.get(number, number) for number in row]


def thrown_fitting_row(n, one, dice):
    """A row that may stand behind another one in a form."""
    if n in FITTING:
        choice = FITTING[n][tuple(one) if one else None]
        return list(choice[dice.below(len(choice))])
    other = straight(n)
    while other in (straight(n), half(n)):
        other = thrown_row(n, dice)
        wrong = set(starts(other)) - set(stops(one)) if one else set()
        while wrong:
            other = without_first(other, min(wrong))
            wrong = set(starts(other)) - set(stops(one))
    return other


def thrown_form(n, halves, many, seed=0):
    """A sound form; one and two strings have no rows that a form may have."""
    dice = Dice(13 * n + many + 7 * seed)
    rows = []
    if n > 2:
        for _ in range(many):
            rows.append(thrown_fitting_row(n, rows[-1] if rows else None, dice))
    return (halves if n > 1 else 0, rows)


def sample_forms(counts=(0, 1, 2, 5), halves=(-3, -2, -1, 0, 1, 2, 3)):
    return [(n, thrown_form(n, h, many)) for n in range(1, MOST_STRINGS + 1) for h in halves for many in counts]


class FormCase(BraidCase):
    def told_form(self, deed, *given):
        """What a deed tells, once it is sure that it is a sound form."""
        told = self.told(deed, *given)
        self.assertIs(type(told), tuple)
        self.assertEqual(len(told), 2)
        self.assertIs(type(told[0]), int)
        self.assertIs(type(told[1]), list)
        for row in told[1]:
            self.assertIs(type(row), list)
            self.assertTrue(all(type(number) is int for number in row))
        self.assertTrue(is_sound(given[0], told))
        self.assertIs(checked_form(given[0], told), True)
        return told


class CheckedForm(FormCase):
    def test_without_rows(self):
        self.assertIs(self.told(checked_form, 1, (0, [])), True)
        for n in range(2, MOST_STRINGS + 1):
            for halves in HALVES + (1001, -1001, 10 ** 6):
                self.assertIs(self.told(checked_form, n, (halves, [])), True)

    def test_one_row(self):
        for n in range(3, 6):
            for row in FITTING[n][None]:
                for halves in (-1, 0, 5):
                    self.assertIs(checked_form(n, (halves, [row])), True)
        for n in (6, 7):
            for row in thrown_rows(n, 50):
                if row not in (straight(n), half(n)):
                    self.assertIs(checked_form(n, (0, [row])), True)

    def test_sound_forms_of_many_rows(self):
        for n, each in sample_forms((1, 2, 5, 40)):
            self.assertTrue(is_sound(n, each))
            self.assertIs(self.told(checked_form, n, each), True)

    def test_the_greatest_forms(self):
        for n in range(1, MOST_STRINGS + 1):
            for halves in (-1000, 1000):
                for many in (1000, 1010):
                    self.assertIs(self.told(checked_form, n, thrown_form(n, halves, many)), True)

    def test_every_two_rows_of_few_strings(self):
        for n in (1, 2, 3, 4):
            for one in all_rows(n):
                for other in all_rows(n):
                    if is_sound(n, (0, [one, other])):
                        self.assertIs(checked_form(n, (0, [one, other])), True)
                    else:
                        self.refused(NoForm, checked_form, n, (0, [one, other]))

    def test_halves_with_one_string(self):
        for halves in (1, -1, 2, -2, 1000, -1000, 10 ** 30, VAST, -VAST):
            self.refused(NoForm, checked_form, 1, (halves, []))

    def test_one_string_and_two_strings_have_no_rows(self):
        self.refused(NoForm, checked_form, 1, (0, [[0]]))
        self.refused(NoForm, checked_form, 2, (0, [[0, 1]]))
        self.refused(NoForm, checked_form, 2, (0, [[1, 0]]))
        self.refused(NoForm, checked_form, 2, (3, [[1, 0], [1, 0]]))

    def put_in(self, n, each, wrong):
        """The form with a wrong list put in at each place, and in the place of each row."""
        halves, rows = each
        for place in range(len(rows) + 1):
            self.refused(NoForm, checked_form, n, (halves, rows[:place] + [wrong] + rows[place:]))
        for place in range(len(rows)):
            self.refused(NoForm, checked_form, n, (halves, rows[:place] + [wrong] + rows[place + 1:]))

    def test_straight_rows_and_half_turns(self):
        for n, each in sample_forms((0, 1, 2, 5), (-1, 0, 1)):
            self.put_in(n, each, straight(n))
            self.put_in(n, each, half(n))

    def test_lists_that_are_no_rows(self):
        for n, each in sample_forms((0, 1, 2, 5), (-1, 0, 1)):
            self.put_in(n, each, [])
            self.put_in(n, each, list(range(8)))
            self.put_in(n, each, list(range(7, -1, -1)))
            self.put_in(n, each, list(range(1, n + 1)))
            self.put_in(n, each, [0] * n if n > 1 else [1])
            for wrong in (n, -1, 10 ** 30, -10 ** 30, VAST, -VAST):
                self.put_in(n, each, list(range(n - 1)) + [wrong])
                self.put_in(n, each, [wrong] + list(range(1, n)))

    def test_rows_of_another_number_of_strings(self):
        for n, each in sample_forms((0, 1, 2), (0,)):
            for other in range(1, MOST_STRINGS + 2):
                if other == n:
                    continue
                for row in thrown_rows(other, 5):
                    self.put_in(n, each, row)
        self.refused(NoForm, checked_form, 4, (0, [[1, 0, 2]]))
        self.refused(NoForm, checked_form, 3, (0, [[1, 0, 2, 3]]))
        self.refused(NoForm, checked_form, 3, (0, [[1, 0, 2], [1, 0, 2, 3]]))

    def test_a_crossing_that_could_go_over(self):
        self.refused(NoForm, checked_form, 3, (0, [[1, 0, 2], [0, 2, 1]]))
        self.refused(NoForm, checked_form, 3, (0, [[1, 0, 2], [1, 0, 2], [0, 2, 1]]))
        self.refused(NoForm, checked_form, 3, (-2, [[0, 2, 1], [1, 2, 0], [0, 2, 1]]))
        self.refused(NoForm, checked_form, 4, (0, [[1, 0, 2, 3], [0, 1, 3, 2]]))
        self.refused(NoForm, checked_form, 4, (1, [[1, 0, 2, 3], [1, 0, 3, 2]]))

    def test_a_crossing_that_could_go_over_at_each_place(self):
        for n, each in sample_forms((2, 5), (-1, 0, 1)):
            halves, rows = each
            for place in range(1, len(rows)):
                for row in thrown_rows(n, 20):
                    changed = (halves, rows[:place] + [row] + rows[place + 1:])
                    if is_sound(n, changed):
                        self.assertIs(checked_form(n, changed), True)
                    else:
                        self.refused(NoForm, checked_form, n, changed)

    def test_a_fault_at_the_end_of_a_great_form(self):
        for n in range(3, MOST_STRINGS + 1):
            halves, rows = thrown_form(n, 5, 999)
            for wrong in (straight(n), half(n), [], list(range(n + 1)), [0] * n):
                self.refused(NoForm, checked_form, n, (halves, rows + [wrong]))
                self.refused(NoForm, checked_form, n, (halves, [wrong] + rows))


class FormWord(FormCase):
    def test_as_written(self):
        self.assertEqual(form_word(1, (0, [])), [])
        self.assertEqual(form_word(2, (3, [])), [1, 1, 1])
        self.assertEqual(form_word(2, (-3, [])), [-1, -1, -1])
        self.assertEqual(form_word(3, (1, [])), [1, 2, 1])
        self.assertEqual(form_word(3, (-1, [])), [-1, -2, -1])
        self.assertEqual(form_word(3, (2, [[1, 2, 0]])), [1, 2, 1, 1, 2, 1, 1, 2])
        self.assertEqual(form_word(3, (-1, [[1, 2, 0], [0, 2, 1]])), [-1, -2, -1, 1, 2, 2])
        self.assertEqual(form_word(4, (-1, [])), [-1, -2, -3, -1, -2, -1])
        self.assertEqual(form_word(4, (0, [[1, 0, 3, 2], [1, 0, 2, 3]])), [1, 3, 1])

    def test_word_by_word(self):
        for n, each in sample_forms((0, 1, 2, 5, 40), HALVES):
            halves, rows = each
            turn = row_word(half(n))
            word = []
            for _ in range(abs(halves)):
                word += turn if halves > 0 else turned(turn)
            for row in rows:
                word += row_word(row)
            self.assertEqual(self.told_word(form_word, n, each), word)

    def test_the_greatest_forms(self):
        for n in range(1, MOST_STRINGS + 1):
            for halves in (-1000, 1000):
                each = thrown_form(n, halves, 1000)
                told = self.told_word(form_word, n, each)
                rows = [row_word(row) for row in each[1]]
                self.assertEqual(len(told), abs(each[0]) * (n * (n - 1) // 2) + sum(len(word) for word in rows))


class Form(FormCase):
    def test_as_written(self):
        self.assertEqual(form(1, []), (0, []))
        self.assertEqual(form(2, [1, 1, -1]), (1, []))
        self.assertEqual(form(2, [-1, -1, -1]), (-3, []))
        self.assertEqual(form(3, [1]), (0, [[1, 0, 2]]))
        self.assertEqual(form(3, [1, 2, 1]), (1, []))
        self.assertEqual(form(3, [2, 1, 2]), (1, []))
        self.assertEqual(form(3, [-1, -2, -1]), (-1, []))
        self.assertEqual(form(3, [1, 2, 1, 1]), (1, [[1, 0, 2]]))
        self.assertEqual(form(3, [1, 1, 2, 1]), (1, [[0, 2, 1]]))
        self.assertEqual(form(3, [-1]), (-1, [[1, 2, 0]]))
        self.assertEqual(form(3, [1, 1, 2, 2]), (0, [[1, 0, 2], [1, 2, 0], [0, 2, 1]]))
        self.assertEqual(form(3, [2, 2, 1, 1]), (0, [[0, 2, 1], [2, 0, 1], [1, 0, 2]]))
        self.assertEqual(form(4, [1, 1, 3]), (0, [[1, 0, 3, 2], [1, 0, 2, 3]]))

    def test_empty_word_and_one_string(self):
        for n in range(1, MOST_STRINGS + 1):
            self.assertEqual(self.told_form(form, n, []), (0, []))

    def test_half_turns_and_single_rows(self):
        for n in range(2, MOST_STRINGS + 1):
            turn = row_word(half(n))
            for halves in (-4, -3, -2, -1, 0, 1, 2, 3, 4):
                word = turn * halves if halves >= 0 else turned(turn) * -halves
                self.assertEqual(self.told_form(form, n, word), (halves, []))
                for row in thrown_rows(n, 20):
                    if row not in (straight(n), half(n)):
                        self.assertEqual(form(n, word + row_word(row)), (halves, [row]))
                        flips = flipped_row(row) if halves % 2 else row
                        self.assertEqual(form(n, row_word(row) + word), (halves, [flips]))

    def test_the_form_of_a_forms_word(self):
        for n, each in sample_forms((0, 1, 2, 5, 40)):
            self.assertEqual(self.told_form(form, n, form_word(n, each)), each)

    def test_every_form_of_two_rows_and_few_strings(self):
        for n in (3, 4):
            for one in FITTING[n][None]:
                for other in FITTING[n][tuple(one)]:
                    for halves in (-2, -1, 0, 1):
                        each = (halves, [one, other])
                        self.assertEqual(form(n, form_word(n, each)), each)

    def test_sample_words(self):
        for n, word in sample_words(SHORT + (333,)):
            told = self.told_form(form, n, word)
            behind = form_word(n, told)
            self.assertEqual(hanging(n, behind), hanging(n, word))
            self.assertEqual(form(n, behind), told)

    def test_all_short_words_are_known_apart(self):
        for n, longest in ((2, 6), (3, 6), (4, 4), (5, 3)):
            by_form = {}
            by_hanging = {}
            for word in all_words(n, longest):
                told = str(form(n, word))
                numbers = str(hanging(n, word))
                self.assertEqual(by_form.setdefault(told, numbers), numbers)
                self.assertEqual(by_hanging.setdefault(numbers, told), told)

    def test_all_exchanges_that_can_be_done(self):
        words = [(n, word) for n, longest in ((2, 3), (3, 3), (4, 2)) for word in all_words(n, longest)]
        words.extend(sample_words((0, 1, 2, 5, 9)))
        for n, word in words:
            told = form(n, word)
            for move in every_move(n, word):
                self.assertEqual(form(n, moved(n, word, move)), told, (n, word, move))

    def test_many_exchanges_one_behind_the_other(self):
        for n, word in sample_words(SHORT):
            told = form(n, word)
            for each in walk(n, word, 60, Dice(n + len(word))):
                self.assertEqual(form(n, each), told)
        for n, word in sample_words((333,)):
            self.assertEqual(form(n, walk(n, word, 400, Dice(n))[-1]), form(n, word))

    def test_mirrored_and_upturned_walks(self):
        for n in range(2, MOST_STRINGS + 1):
            word = [abs(k) for k in thrown_word(n, 25)]
            for sign_word in (word, mirrored(word)):
                told = form(n, sign_word)
                for each in walk(n, sign_word, 60, Dice(n + 5)):
                    self.assertEqual(form(n, each), told)

    def test_a_crossing_more_makes_another_form(self):
        for n, word in sample_words(SHORT + (333,)):
            told = form(n, word)
            for k in crossings(n):
                for place in (0, len(word) // 2, len(word)):
                    self.assertNotEqual(form(n, word[:place] + [k] + word[place:]), told)

    def test_flipped_words_have_flipped_rows(self):
        for n, word in sample_words(SHORT + (333,)):
            halves, rows = form(n, word)
            self.assertEqual(form(n, flipped(n, word)), (halves, [flipped_row(row) for row in rows]))


class LongWords(FormCase):
    def assert_form_of(self, n, word):
        told = self.told_form(form, n, word)
        self.assertEqual(hanging(n, form_word(n, told)), hanging(n, word))
        return told

    def test_the_longest_words(self):
        for n, word in sample_words((4000,)):
            self.assert_form_of(n, word)

    def test_the_longest_words_of_one_sign(self):
        for n in range(2, MOST_STRINGS + 1):
            word = [abs(k) for k in thrown_word(n, 4000)]
            self.assertGreaterEqual(self.assert_form_of(n, word)[0], 0)
            halves, rows = self.assert_form_of(n, mirrored(word))
            self.assertLessEqual(halves + len(rows), 0)

    def test_all_of_one_sign_ahead_of_the_others(self):
        for n in range(2, MOST_STRINGS + 1):
            word = [abs(k) for k in thrown_word(n, 2000)]
            other = [-abs(k) for k in thrown_word(n, 2000, 1)]
            self.assert_form_of(n, word + other)
            self.assert_form_of(n, other + word)

    def test_few_crossings_over_and_over(self):
        self.assertEqual(form(7, [1] * 4000), (0, [[1, 0, 2, 3, 4, 5, 6]] * 4000))
        self.assertEqual(form(7, [1] * 2000 + [3] * 2000), (0, [[1, 0, 3, 2, 4, 5, 6]] * 2000))
        self.assertEqual(form(7, [1, -3] * 2000), form(7, [1] * 2000 + [-3] * 2000))
        self.assertEqual(form(7, [6, -1] * 2000), form(7, [-1] * 2000 + [6] * 2000))
        self.assertEqual(form(2, [1] * 4000), (4000, []))
        self.assertEqual(form(3, [-1, -2, -1] * 1333), (-1333, []))
        for word in ([1, -2] * 2000, [1] * 2000 + [-2] * 2000, [1, 2, 3, 4, 5, 6] * 666, [1, -2, 3, -4, 5, -6] * 666):
            self.assert_form_of(7, word)

    def test_a_word_and_its_turned_one_by_exchanges(self):
        for n in range(2, MOST_STRINGS + 1):
            word = thrown_word(n, 1800)
            behind = walk(n, word, 100, Dice(n))[-1]
            self.assertEqual(form(n, word + turned(behind)), (0, []))
            self.assertEqual(form(n, turned(behind) + word), (0, []))

    def test_the_longest_words_behind_exchanges(self):
        for n in range(2, MOST_STRINGS + 1):
            word = thrown_word(n, 3800)
            self.assertIs(same(n, word, walk(n, word, 50, Dice(n))[-1]), True)
            self.assertIs(same(n, word, word[:1900] + [1] + word[1900:]), False)


class Same(FormCase):
    def test_as_written(self):
        self.assertIs(same(1, [], []), True)
        self.assertIs(same(3, [1, 2, 1], [2, 1, 2]), True)
        self.assertIs(same(3, [-1, -2, -1], [-2, -1, -2]), True)
        self.assertIs(same(3, [1, 2, -1], [-2, 1, 2]), True)
        self.assertIs(same(4, [1, -3], [-3, 1]), True)
        self.assertIs(same(4, [2, -2], []), True)
        self.assertIs(same(3, [1, 2], [2, 1]), False)
        self.assertIs(same(2, [1], [-1]), False)
        self.assertIs(same(3, [1], [2]), False)
        self.assertIs(same(3, [1, -2, 1], [-2, 1, -2]), False)

    def test_words_of_one_order_and_one_sum_that_are_not_the_same(self):
        pairs = (
            (3, [1, 1, 2, 2], [2, 2, 1, 1]), (3, [1, 1], [2, 2]), (3, [1, -2, 1, -2, 1, -2], []),
            (4, [1, 1, 2, 2, 3, 3], [3, 3, 2, 2, 1, 1]), (3, [1, 1, 2, 2, -1, -1, -2, -2], []),
            (7, [5, 5, 6, 6], [6, 6, 5, 5]), (3, [-1, -1, -2, -2], [-2, -2, -1, -1]),
        )
        for n, one, other in pairs:
            self.assertEqual((order_of(n, one), sum_of(one)), (order_of(n, other), sum_of(other)))
            self.assertIs(self.told(same, n, one, other), False)
            self.assertIs(self.told(same, n, other, one), False)
            self.assertNotEqual(form(n, one), form(n, other))

    def test_all_two_short_words(self):
        for n, longest in ((2, 3), (3, 3), (4, 2)):
            words = all_words(n, longest)
            for one in words:
                for other in words:
                    self.assertIs(same(n, one, other), hanging(n, one) == hanging(n, other))

    def test_sample_words(self):
        for n, word in sample_words(SHORT):
            self.assertIs(self.told(same, n, word, list(word)), True)
            self.assertIs(same(n, word, walk(n, word, 40, Dice(n))[-1]), True)
            for k in crossings(n):
                self.assertIs(same(n, word, word + [k]), False)
                self.assertIs(same(n, word + [k], word + [-k]), False)
                self.assertIs(same(n, [k] + word, word + [k]), hanging(n, [k] + word) == hanging(n, word + [k]))


class JoinedAndTurned(FormCase):
    def test_as_written(self):
        self.assertEqual(form_joined(1, (0, []), (0, [])), (0, []))
        self.assertEqual(form_turned(1, (0, [])), (0, []))
        self.assertEqual(form_joined(3, (1, []), (-3, [])), (-2, []))
        self.assertEqual(form_joined(3, (0, [[1, 0, 2]]), (1, [])), (1, [[0, 2, 1]]))
        self.assertEqual(form_joined(3, (0, [[1, 0, 2]]), (0, [[0, 2, 1]])), (0, [[1, 2, 0]]))
        self.assertEqual(form_turned(3, (0, [[1, 0, 2]])), (-1, [[1, 2, 0]]))
        self.assertEqual(form_turned(3, (5, [])), (-5, []))

    def test_joined_against_the_words(self):
        for n, word in sample_words(SHORT):
            for length in SHORT:
                other = thrown_word(n, length, 3)
                told = self.told_form(form_joined, n, form(n, word), form(n, other))
                self.assertEqual(told, form(n, word + other))

    def test_joined_forms_against_the_words(self):
        for n, one in sample_forms((0, 1, 3), (-2, -1, 0, 1)):
            for halves in (-1, 0, 1, 2):
                for many in (0, 1, 4):
                    other = thrown_form(n, halves, many, 1)
                    word = form_word(n, one) + form_word(n, other)
                    told = self.told_form(form_joined, n, one, other)
                    self.assertEqual(told, form(n, word))
                    self.assertEqual(hanging(n, form_word(n, told)), hanging(n, word))

    def test_turned_against_the_words(self):
        for n, word in sample_words(SHORT + (333, 4000)):
            self.assertEqual(self.told_form(form_turned, n, form(n, word)), form(n, turned(word)))

    def test_turned_forms_against_the_words(self):
        for n, one in sample_forms((0, 1, 2, 5, 40)):
            word = turned(form_word(n, one))
            told = self.told_form(form_turned, n, one)
            self.assertEqual(told, form(n, word))
            self.assertEqual(hanging(n, form_word(n, told)), hanging(n, word))
            self.assertEqual(form_turned(n, told), one)

    def test_joined_with_its_turned_one(self):
        for n, one in sample_forms((0, 1, 2, 5, 40)):
            other = form_turned(n, one)
            self.assertEqual(self.told_form(form_joined, n, one, other), (0, []))
            self.assertEqual(self.told_form(form_joined, n, other, one), (0, []))

    def test_a_word_and_its_turned_one_behind_it(self):
        for n, word in sample_words((0, 1, 2, 9, 333, 2000)):
            self.assertEqual(form(n, word + turned(word)), (0, []))
            self.assertEqual(form(n, turned(word) + word), (0, []))

    def test_joined_with_none(self):
        for n, one in sample_forms((0, 1, 5)):
            self.assertEqual(form_joined(n, one, (0, [])), one)
            self.assertEqual(form_joined(n, (0, []), one), one)

    def test_one_and_the_same_form_twice(self):
        for n, one in sample_forms((0, 1, 5)):
            self.assertEqual(self.told(form_joined, n, one, one), form(n, form_word(n, one) * 2))

    def test_the_greatest_forms(self):
        for n in range(1, MOST_STRINGS + 1):
            for halves in (-1000, 999, 1000):
                one = thrown_form(n, halves, 1000)
                other = form_turned(n, one)
                self.assertTrue(is_sound(n, other))
                self.assertEqual(form_turned(n, other), one)
                self.assertEqual(form_joined(n, one, other), (0, []))
                self.assertEqual(form_joined(n, other, one), (0, []))

    def test_the_greatest_forms_of_two_kinds(self):
        for n in range(1, MOST_STRINGS + 1):
            one = thrown_form(n, 1000, 1000)
            other = thrown_form(n, -999, 1000, 1)
            told = self.told_form(form_joined, n, one, other)
            self.assertEqual(form_joined(n, told, form_turned(n, other)), one)
            self.assertEqual(form_joined(n, form_turned(n, one), told), other)


if __name__ == "__main__":
    unittest.main()
