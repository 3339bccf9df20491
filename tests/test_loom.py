"""Point 91: braidcomb/loom.py."""

import copy
import unittest

from braidcomb.counts import rings
from braidcomb.errors import NoMove, NoWord
from braidcomb.forms import form
from braidcomb.loom import Loom
from braidcomb.moves import move_back, moved
from tests.samples import (
    MOST_STRINGS, VAST, BraidCase, Dice, crossings, every_move, lists_within, sample_words, thrown_moves, thrown_word,
)

STRINGS = range(1, MOST_STRINGS + 1)
NO_MOVES = (
    ("out", -1), ("out", VAST), ("far", -1), ("far", VAST), ("near", -1), ("near", -VAST), ("in", -1, 1),
    ("in", VAST, 1), ("in", 0, 0), ("in", 0, 7), ("in", 0, -7), ("in", 0, VAST), ("in", 0, -VAST),
)


class Kept:
    """A loom, and beside it all words that it has held since each deed that is not yet taken back."""

    def __init__(self, case, n):
        self.case = case
        self.n = n
        self.loom = Loom(n)
        self.words = [[]]

    def look(self):
        self.case.assertEqual(self.loom.now(), self.words[-1])

    def hang(self, word):
        self.case.assertIsNone(self.case.told(self.loom.hang, word))
        self.words.append(self.words[-1] + word)
        self.look()

    def drop(self, many):
        self.case.assertIsNone(self.loom.drop(many))
        self.words.append(self.words[-1][:len(self.words[-1]) - many])
        self.look()

    def go(self, move):
        self.case.assertIsNone(self.case.told(self.loom.go, move))
        self.words.append(moved(self.n, self.words[-1], move))
        self.look()

    def undo(self):
        if len(self.words) == 1:
            self.case.assertIs(self.loom.undo(), False)
        else:
            self.case.assertIs(self.loom.undo(), True)
            self.words.pop()
        self.look()

    def undo_all(self):
        while len(self.words) > 1:
            self.undo()
        self.undo()
        self.undo()
        self.case.assertEqual(self.loom.now(), [])

    def refusals(self):
        """Deeds that are refused, each with its class, and that change nothing."""
        length = len(self.words[-1])
        for many in (-1, -2, -length - 1, length + 1, length + 2, VAST, -VAST):
            self.case.refused(NoMove, self.loom.drop, many)
        for move in NO_MOVES + (("out", length), ("far", length - 1), ("near", length - 2), ("in", length + 1, 1)):
            self.case.refused(NoMove, self.loom.go, move)
        for word in ([0], [self.n], [-self.n], [VAST], [-VAST], thrown_word(self.n, 5) + [self.n], [0] * 4000):
            self.case.refused(NoWord, self.loom.hang, word)
        self.look()

    def throw(self, dice):
        """A deed that is drawn."""
        choice = dice.below(10)
        if choice < 3:
            self.hang(thrown_word(self.n, dice.below(6), dice.below(1000)))
        elif choice < 5:
            self.drop(dice.below(min(len(self.words[-1]), 7) + 1))
        elif choice < 8 and self.n > 1:
            for move in thrown_moves(self.n, self.words[-1], dice):
                self.go(move)
        else:
            self.undo()


class Deeds(BraidCase):
    def test_at_first(self):
        for n in STRINGS:
            loom = Loom(n)
            self.assertEqual(loom.now(), [])
            self.assertEqual(loom.form_now(), (0, []))
            self.assertEqual(loom.rings_now(), [[string] for string in range(n)])
            self.assertIs(loom.undo(), False)
            self.assertEqual(loom.now(), [])

    def test_as_written(self):
        loom = Loom(4)
        self.assertIsNone(loom.hang([1, 3, -2]))
        self.assertIsNone(loom.go(("far", 0)))
        self.assertEqual(loom.now(), [3, 1, -2])
        self.assertIsNone(loom.drop(2))
        self.assertEqual(loom.now(), [3])
        self.assertIsNone(loom.go(("in", 1, -2)))
        self.assertEqual(loom.now(), [3, -2, 2])
        self.assertIs(loom.undo(), True)
        self.assertEqual(loom.now(), [3])
        self.assertIs(loom.undo(), True)
        self.assertEqual(loom.now(), [3, 1, -2])
        self.assertIs(loom.undo(), True)
        self.assertEqual(loom.now(), [1, 3, -2])
        self.assertIs(loom.undo(), True)
        self.assertEqual(loom.now(), [])
        self.assertIs(loom.undo(), False)

    def test_each_exchange_is_taken_back(self):
        for n, word in sample_words((0, 1, 2, 3, 9, 40)):
            loom = Loom(n)
            loom.hang(word)
            for move in every_move(n, word):
                self.assertIsNone(loom.go(move))
                self.assertEqual(loom.now(), moved(n, word, move))
                self.assertIs(loom.undo(), True)
                self.assertEqual(loom.now(), word)
            self.assertIs(loom.undo(), True)
            self.assertIs(loom.undo(), False)

    def test_deeds_that_change_nothing_are_deeds(self):
        for n in STRINGS:
            kept = Kept(self, n)
            kept.hang([])
            kept.drop(0)
            kept.hang(thrown_word(n, 3))
            kept.hang([])
            kept.drop(0)
            kept.drop(len(kept.words[-1]))
            kept.drop(0)
            self.assertEqual(len(kept.words), 8)
            kept.undo_all()

    def test_an_exchange_and_its_back_are_two_deeds(self):
        loom = Loom(3)
        loom.hang([1, 2, 1])
        loom.go(("near", 0))
        loom.go(move_back(3, [1, 2, 1], ("near", 0)))
        self.assertEqual(loom.now(), [1, 2, 1])
        self.assertIs(loom.undo(), True)
        self.assertEqual(loom.now(), [2, 1, 2])

    def test_many_deeds(self):
        for n in STRINGS:
            for seed in range(6):
                dice = Dice(10 * n + seed)
                kept = Kept(self, n)
                for _ in range(150):
                    kept.throw(dice)
                kept.refusals()
                self.assertEqual(kept.loom.form_now(), form(n, kept.words[-1]))
                self.assertEqual(kept.loom.rings_now(), rings(n, kept.words[-1]))
                kept.undo_all()

    def test_deeds_behind_undone_ones(self):
        for n in STRINGS:
            dice = Dice(n)
            kept = Kept(self, n)
            for _ in range(12):
                for _ in range(9):
                    kept.throw(dice)
                for _ in range(dice.below(9)):
                    kept.undo()
                kept.hang(thrown_word(n, 2, dice.below(100)))
            kept.undo_all()
            kept.hang(thrown_word(n, 3))
            kept.undo_all()

    def test_long_words(self):
        for n in STRINGS:
            kept = Kept(self, n)
            word = thrown_word(n, 4000)
            kept.hang(word)
            self.assertEqual(kept.loom.form_now(), form(n, word))
            self.assertEqual(kept.loom.rings_now(), rings(n, word))
            kept.drop(len(word))
            for part in range(0, len(word), 500):
                kept.hang(word[part:part + 500])
            self.assertEqual(kept.loom.now(), word)
            for many in (0, 1, 2000, 1999) if n > 1 else (0,):
                kept.drop(many)
            kept.undo_all()

    def test_looms_do_not_share(self):
        one, other = Loom(3), Loom(3)
        one.hang([1, 2])
        self.assertEqual(other.now(), [])
        self.assertIs(other.undo(), False)
        other.hang([-1])
        self.assertIs(one.undo(), True)
        self.assertEqual((one.now(), other.now()), ([], [-1]))


class Refused(BraidCase):
    def test_strings_out_of_range(self):
        for n in (0, -1, 8, 9, -7, 10 ** 30, VAST, -VAST):
            self.refused(NoWord, Loom, n)

    def test_what_is_refused_changes_nothing(self):
        for n in STRINGS:
            for length in (0, 1, 2, 5, 40):
                kept = Kept(self, n)
                kept.refusals()
                self.assertIs(kept.loom.undo(), False)
                kept.hang(thrown_word(n, length))
                kept.refusals()
                kept.drop(len(kept.words[-1]) // 2)
                kept.refusals()
                kept.undo()
                kept.refusals()
                kept.undo_all()

    def test_a_word_that_is_refused_at_its_end(self):
        for n in STRINGS:
            loom = Loom(n)
            loom.hang(thrown_word(n, 3))
            before = loom.now()
            self.refused(NoWord, loom.hang, thrown_word(n, 3999) + [n])
            self.assertEqual(loom.now(), before)
            self.assertIs(loom.undo(), True)
            self.assertEqual(loom.now(), [])

    def test_exchanges_that_do_not_fit(self):
        loom = Loom(4)
        loom.hang([1, 2, 1, 1])
        for move in (("out", 0), ("far", 0), ("near", 1), ("far", 2), ("out", 2), ("near", 2), ("in", 5, 1), ("in", 0, 4)):
            self.refused(NoMove, loom.go, move)
        self.assertEqual(loom.now(), [1, 2, 1, 1])
        self.assertIs(loom.undo(), True)
        self.assertIs(loom.undo(), False)


class Own(BraidCase):
    def test_what_was_handed_in_may_be_changed_later(self):
        loom = Loom(3)
        word = [1, 2, -1]
        loom.hang(word)
        word.append(99)
        word[0] = 98
        self.assertEqual(loom.now(), [1, 2, -1])
        empty = []
        loom.hang(empty)
        empty.append(97)
        self.assertEqual(loom.now(), [1, 2, -1])
        first = [2]
        other = Loom(3)
        other.hang(first)
        first.clear()
        self.assertEqual(other.now(), [2])

    def test_what_was_handed_in_is_not_changed(self):
        for n in STRINGS:
            loom = Loom(n)
            word = thrown_word(n, 4)
            kept = list(word)
            loom.hang(word)
            loom.hang(word)
            for k in crossings(n):
                loom.go(("in", 0, k))
            loom.drop(len(kept))
            while loom.undo():
                self.assertEqual(word, kept)

    def test_what_was_told_may_be_changed(self):
        for n in STRINGS:
            for word in ([], thrown_word(n, 1), thrown_word(n, 9), thrown_word(n, 40)):
                loom = Loom(n)
                loom.hang(word)
                for _ in range(3):
                    for deed, expected in (
                        (loom.now, word), (loom.form_now, form(n, word)), (loom.rings_now, rings(n, word)),
                    ):
                        told = self.told(deed)
                        self.assertEqual(told, expected)
                        self.assertEqual(told, copy.deepcopy(expected))
                        for each in lists_within(told):
                            each.append(99)
                            each.reverse()
                self.assertEqual(loom.now(), word)
                self.assertIs(loom.undo(), True)
                self.assertEqual(loom.now(), [])
                self.assertIs(loom.undo(), False)

    def test_a_word_that_was_told_is_hung_again(self):
        loom = Loom(3)
        loom.hang([1, -2])
        told = loom.now()
        loom.hang(told)
        told.append(99)
        self.assertEqual(loom.now(), [1, -2, 1, -2])
        loom.drop(3)
        loom.undo()
        self.assertEqual(loom.now(), [1, -2, 1, -2])

    def test_kinds(self):
        loom = Loom(3)
        loom.hang([1, 2, 2])
        self.assertIs(type(loom.now()), list)
        self.assertIs(type(loom.form_now()), tuple)
        self.assertEqual([type(part) for part in loom.form_now()], [int, list])
        self.assertEqual([type(part) for part in loom.rings_now()], [list, list])


if __name__ == "__main__":
    unittest.main()
