"""Points 1 and 2: what is handed in stays, what is told is the asker's own."""

import copy
import unittest

from braidcomb.asking import combed, compared
from braidcomb.counts import linked, profile, rings, sum_of, table
from braidcomb.forms import checked_form, form, form_joined, form_turned, form_word, same
from braidcomb.likeness import alike
from braidcomb.moves import move_back, moved, moves_of
from braidcomb.parts import parted
from braidcomb.pictures import picture, read_picture
from braidcomb.rows import (
    ahead, behind, checked_row, flipped_row, half, row_of, row_word, slid, starts, stops, straight,
)
from braidcomb.strings import doubled, without
from braidcomb.summits import rolled_down, rolled_up, summit, summits
from braidcomb.unfolding import unfolded
from braidcomb.ways import way
from braidcomb.words import checked, flipped, mirrored, order_of, trimmed, turned, upturned
from braidcomb.wordtext import read_text, written
from tests.samples import MOST_STRINGS, BraidCase, Dice, crossings, lists_within, sample_words, thrown_rows, walk

MOST_STRINGS_TURNED = 4
LISTS_OF_A_WORD = (turned, mirrored, upturned, trimmed, moves_of)
LISTS_OF_N_AND_A_WORD = (flipped, order_of, table, rings, linked, profile, form, parted)
LISTS_OF_A_ROW = (starts, stops, row_word, ahead, behind, flipped_row)


def asked():
    """Tuples of a deed that tells a list, and what is handed in."""
    found = []
    for n, word in sample_words((0, 1, 2, 9, 4000)):
        found.extend([(deed, (word,)) for deed in LISTS_OF_A_WORD])
        found.extend([(deed, (n, word)) for deed in LISTS_OF_N_AND_A_WORD])
        found.extend([(moved, (n, word, ("in", len(word) // 2, k))) for k in crossings(n)])
        found.extend([(moved, (n, word, move)) for move in moves_of(word)[:3]])
        found.extend(asked_of_a_form(n, form(n, word)))
        found.extend(asked_of_strings(n, word))
    for n, word in sample_words((0, 1, 2, 9, 24)):
        found.append((unfolded, (n, word)))
        found.extend([(way, (n, word, other)) for other in walk(n, word, 3, Dice(n))])
        # One list stands for both words.
        found.append((way, (n, word, word)))
    for n, word in sample_words((0, 1, 2, 9, 12)):
        if n <= MOST_STRINGS_TURNED:
            found.extend(asked_of_turning(n, word))
    for n in range(1, MOST_STRINGS + 1):
        found.extend([(straight, (n,)), (half, (n,))])
        for row in thrown_rows(n, 5) + [straight(n), half(n)]:
            found.extend(asked_of_a_row(n, row))
    return found


def asked_of_strings(n, word):
    found = []
    for s in range(n):
        found.extend([(without, (n, word, s))] if n > 1 else [])
        found.extend([(doubled, (n, word, s))] if n < MOST_STRINGS else [])
    return found


def asked_of_turning(n, word):
    found = [(summit, (n, word)), (summits, (n, word, 1000))]
    found.extend([(alike, (n, word, other, 1000)) for other in (word, flipped(n, word))])
    for halves in (-2, -1, 0, 1):
        whole = (halves if n > 1 else 0, form(n, word)[1])
        found.extend([(rolled_down, (n, whole)), (rolled_up, (n, whole))])
    return found


def asked_of_a_form(n, whole):
    """One form stands twice for form_joined, once as the very same object."""
    return [
        (form_word, (n, whole)), (form_turned, (n, whole)),
        (form_joined, (n, whole, (0, []))), (form_joined, (n, (0, []), whole)), (form_joined, (n, whole, whole)),
    ]


def asked_of_a_row(n, row):
    found = [(deed, (row,)) for deed in LISTS_OF_A_ROW]
    found.append((row_of, (n, row_word(row))))
    found.extend([(slid, (row, other)) for other in (row, straight(n), half(n), behind(row), flipped_row(row))])
    return found


def spoil(thing):
    """Changes each list of a thing, those within it, too."""
    for each in lists_within(thing):
        each.append(99)
        each.reverse()


class Own(BraidCase):
    def test_what_is_told_may_be_changed_by_the_asker(self):
        for deed, given in asked():
            told = self.told(deed, *given)
            kept = copy.deepcopy(told)
            kept_given = copy.deepcopy(given)
            spoil(told)
            self.assertEqual(given, kept_given)
            again = deed(*given)
            spoiled = {id(each) for each in lists_within(told)}
            self.assertFalse(spoiled & {id(each) for each in lists_within(again)})
            self.assertEqual(again, kept)

    def test_what_was_handed_in_may_be_changed_later(self):
        for deed, given in asked():
            own = copy.deepcopy(given)
            told = deed(*own)
            kept = copy.deepcopy(told)
            spoil(own)
            self.assertEqual(told, kept)

    def test_a_word_that_needs_no_trimming_is_told_anew(self):
        word = [1, 2, 3]
        self.assertIsNot(trimmed(word), word)
        empty = []
        for deed in LISTS_OF_A_WORD:
            self.assertIsNot(deed(empty), empty)

    def test_what_was_read_may_be_changed(self):
        for deed, texts in (
            (read_text, ("4:", "4: 1 -2 3", "1:")),
            (read_picture, ("|\n", "| |\n", "| | |\no u |\n| u o\n")),
        ):
            for text in texts:
                told = deed(text)
                kept = copy.deepcopy(told)
                told[1].append(99)
                self.assertEqual(deed(text), kept)
                self.assertIsNot(deed(text)[1], deed(text)[1])

    def test_deeds_that_tell_no_list_change_nothing(self):
        for n, word in sample_words((0, 1, 2, 9, 4000)):
            self.told(checked, n, word)
            self.told(written, n, word)
            self.told(picture, n, word)
            self.told(combed, written(n, word))
            self.told(compared, written(n, word), written(n, word))
            self.told(sum_of, word)
            self.told(same, n, word, word)
            self.told(same, n, word, turned(word))
            self.told(checked_form, n, form(n, word))
            for k in crossings(n):
                self.told(move_back, n, word, ("in", len(word), k))
        for n in range(1, MOST_STRINGS + 1):
            for row in thrown_rows(n, 5):
                self.told(checked_row, row)

    def test_rows_of_a_form_are_lists_of_their_own(self):
        told = form(3, [1, 1, 1])
        self.assertEqual(told, (0, [[1, 0, 2]] * 3))
        told[1][0].reverse()
        self.assertEqual(told, (0, [[2, 0, 1], [1, 0, 2], [1, 0, 2]]))

    def test_empty_lists_of_a_form_are_new_ones(self):
        for n in range(1, MOST_STRINGS + 1):
            form(n, [])[1].append([0])
            self.assertEqual(form(n, []), (0, []))
            for part in parted(n, []):
                part.append(1)
            self.assertEqual(parted(n, []), ([], []))
            whole = (0, [])
            for told in (form_joined(n, whole, whole), form_turned(n, whole)):
                self.assertIsNot(told[1], whole[1])


if __name__ == "__main__":
    unittest.main()
