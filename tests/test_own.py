"""Points 1 and 2: what is handed in stays, what is told is the asker's own."""

import copy
import unittest

from braidcomb.moves import move_back, moved, moves_of
from braidcomb.words import checked, flipped, mirrored, order_of, trimmed, turned, upturned
from braidcomb.wordtext import read_text, written
from tests.samples import BraidCase, crossings, sample_words

LISTS_OF_A_WORD = (turned, mirrored, upturned, trimmed, moves_of)
LISTS_OF_N_AND_A_WORD = (flipped, order_of)


def asked():
    """Tuples of a deed that tells a list, and what is handed in."""
    found = []
    for n, word in sample_words((0, 1, 2, 9, 4000)):
        found.extend([(deed, (word,)) for deed in LISTS_OF_A_WORD])
        found.extend([(deed, (n, word)) for deed in LISTS_OF_N_AND_A_WORD])
        found.extend([(moved, (n, word, ("in", len(word) // 2, k))) for k in crossings(n)])
        found.extend([(moved, (n, word, move)) for move in moves_of(word)[:3]])
    return found


class Own(BraidCase):
    def test_what_is_told_may_be_changed_by_the_asker(self):
        for deed, given in asked():
            told = self.told(deed, *given)
            kept = copy.deepcopy(told)
            kept_given = copy.deepcopy(given)
            told.append(99)
            told.reverse()
            self.assertEqual(given, kept_given)
            again = deed(*given)
            self.assertIsNot(again, told)
            self.assertEqual(again, kept)

    def test_what_was_handed_in_may_be_changed_later(self):
        for deed, given in asked():
            own = copy.deepcopy(given)
            told = deed(*own)
            kept = copy.deepcopy(told)
            for thing in own:
                if isinstance(thing, list):
                    thing.clear()
            self.assertEqual(told, kept)

    def test_a_word_that_needs_no_trimming_is_told_anew(self):
        word = [1, 2, 3]
        self.assertIsNot(trimmed(word), word)
        empty = []
        for deed in LISTS_OF_A_WORD:
            self.assertIsNot(deed(empty), empty)

    def test_what_was_read_may_be_changed(self):
        for text in ("4:", "4: 1 -2 3", "1:"):
            told = read_text(text)
            kept = copy.deepcopy(told)
            told[1].append(99)
            self.assertEqual(read_text(text), kept)
            self.assertIsNot(read_text(text)[1], read_text(text)[1])

    def test_deeds_that_tell_no_list_change_nothing(self):
        for n, word in sample_words((0, 1, 2, 9, 4000)):
            self.told(checked, n, word)
            self.told(written, n, word)
            for k in crossings(n):
                self.told(move_back, n, word, ("in", len(word), k))


if __name__ == "__main__":
    unittest.main()
