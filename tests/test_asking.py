"""Point 92: braidcomb/asking.py."""

import unittest

from braidcomb.asking import combed, compared
from braidcomb.errors import BadText, BraidError, NoWord
from braidcomb.forms import form, form_word
from braidcomb.rows import half, row_word
from braidcomb.wordtext import read_text, written
from braidcomb.words import turned
from tests.hanging import hanging
from tests.samples import MOST_STRINGS, BraidCase, Dice, crossings, sample_words, thrown_word, walk, walked

COMBED = (
    ("1:", "halves 0\n"),
    ("4:", "halves 0\n"),
    ("2: 1 1 1", "halves 3\n"),
    ("2: -1", "halves -1\n"),
    ("3: 1 2 1", "halves 1\n"),
    ("3: 1", "halves 0\nrow 1 0 2\n"),
    ("3: -1", "halves -1\nrow 1 2 0\n"),
    ("3: 1 1 2 1", "halves 1\nrow 0 2 1\n"),
    ("3: 1 1", "halves 0\nrow 1 0 2\nrow 1 0 2\n"),
    ("4: 1 -2 3 3", "halves -1\nrow 1 3 2 0\nrow 2 0 3 1\nrow 0 1 3 2\n"),
    ("   3:   1    2 1   ", "halves 1\n"),
    (" 7: 6 ", "halves 0\nrow 0 1 2 3 4 6 5\n"),
)
BAD_TEXTS = ("", " ", ":", "3", "3 :", "3: 0", "3: x", "3:1", "3: 1\n", "\n3: 1", "33: 1", "-3: 1", "3: --1", "3: 1,2")
NO_WORDS = ("0:", "8:", "9: 1", "1: 1", "3: 3", "3: -3", "7: 7", "2: 1 1 2")


def line_of_move(line):
    """The exchange that a line tells."""
    parts = line.split(" ")
    return (parts[0],) + tuple(int(part) for part in parts[1:])


class AskingCase(BraidCase):
    def told_lines(self, deed, *texts):
        told = self.told(deed, *texts)
        self.assertIs(type(told), str)
        self.assertTrue(told.endswith("\n"))
        return told[:-1].split("\n")


class Combed(AskingCase):
    def test_as_written(self):
        for text, lines in COMBED:
            self.assertEqual(combed(text), lines)

    def test_forms_of_words(self):
        for n, word in sample_words((0, 1, 2, 3, 5, 9, 40, 333, 1990)):
            lines = self.told_lines(combed, written(n, word))
            halves, rows = form(n, word)
            self.assertEqual(lines[0], "halves " + str(halves))
            self.assertEqual(lines[1:], [" ".join(["row"] + [str(number) for number in row]) for row in rows])

    def test_read_again(self):
        for n, word in sample_words((1, 9, 40)):
            lines = self.told_lines(combed, written(n, word))
            halves = int(lines[0].split(" ")[1])
            rows = [[int(number) for number in line.split(" ")[1:]] for line in lines[1:]]
            self.assertEqual(hanging(n, form_word(n, (halves, rows))), hanging(n, word))

    def test_halves(self):
        for n in range(2, MOST_STRINGS + 1):
            turn = row_word(half(n))
            for many in (0, 1, 2, 10):
                self.assertEqual(combed(written(n, turn * many)), f"halves {many}\n")
                self.assertEqual(combed(written(n, turned(turn) * many)), f"halves {-many}\n")

    def test_more_blanks(self):
        for n, word in sample_words((0, 1, 9)):
            text = written(n, word)
            self.assertEqual(combed("   " + text.replace(" ", "    ") + "  "), combed(text))

    def test_refused(self):
        for text in BAD_TEXTS:
            self.refused(BadText, combed, text)
        for text in NO_WORDS:
            self.refused(NoWord, combed, text)


class Compared(AskingCase):
    def assert_same(self, n, one, other):
        lines = self.told_lines(compared, written(n, one), written(n, other))
        self.assertEqual(lines[0], "same")
        moves = [line_of_move(line) for line in lines[1:]]
        self.assertEqual([" ".join(map(str, move)) for move in moves], lines[1:])
        self.assertTrue(all(len(move) == (3 if move[0] == "in" else 2) for move in moves))
        self.assertEqual(walked(n, one, moves), other)
        return lines

    def test_as_written(self):
        self.assertEqual(compared("3: 1 2", "3: 1 2"), "same\n")
        self.assertEqual(compared("1:", "1:"), "same\n")
        self.assertEqual(compared("  3:  1   2", "3: 1 2 "), "same\n")
        self.assertEqual(compared("2: 1 -1", "2:"), "same\nout 0\n")
        self.assertEqual(compared("3: 1 2", "3: 2 1"), "unlike\n")
        self.assertEqual(compared("3: 1 1 2 2", "3: 2 2 1 1"), "unlike\n")
        self.assertEqual(compared("3: 1", "4: 1"), "unlike\n")
        self.assertEqual(compared("1:", "2:"), "unlike\n")

    def test_equal_words(self):
        for n, word in sample_words((0, 1, 9, 24)):
            self.assertEqual(compared(written(n, word), written(n, word)), "same\n")

    def test_ways(self):
        names = {}
        for n, word in sample_words((0, 1, 2, 5, 9, 20)):
            for other in walk(n, word, 25, Dice(n))[::4]:
                if len(other) <= 24:
                    for line in self.assert_same(n, word, other) + self.assert_same(n, other, word):
                        names[line.split(" ")[0]] = True
        self.assertEqual(sorted(names), ["far", "in", "near", "out", "same"])

    def test_to_the_empty_word_and_from_it(self):
        for n, word in sample_words((1, 2, 6, 12)):
            self.assert_same(n, word + turned(word), [])
            self.assert_same(n, [], turned(word) + word)

    def test_unlike(self):
        for n, word in sample_words((0, 1, 5, 23)):
            for k in crossings(n):
                self.assertEqual(compared(written(n, word), written(n, word + [k])), "unlike\n")
                self.assertEqual(compared(written(n, [k] + word), written(n, word)), "unlike\n")

    def test_other_numbers_of_strings(self):
        for n in range(1, MOST_STRINGS + 1):
            for other in range(1, MOST_STRINGS + 1):
                word = thrown_word(min(n, other), 5)
                if n != other:
                    self.assertEqual(compared(written(n, word), written(other, word)), "unlike\n")
                    self.assertEqual(compared(written(n, []), written(other, [])), "unlike\n")

    def test_refused(self):
        for refusal, texts in ((BadText, BAD_TEXTS), (NoWord, NO_WORDS)):
            for text in texts:
                for sound in ("3: 1", "1:", "7: 6 -6"):
                    self.refused(refusal, compared, text, sound)
                    self.refused(refusal, compared, sound, text)
                self.refused(refusal, compared, text, text)

    def test_the_first_text_is_read_first(self):
        for bad in BAD_TEXTS:
            for none in NO_WORDS:
                self.refused(BadText, compared, bad, none)
                self.refused(NoWord, compared, none, bad)

    def test_refused_as_read_text_does(self):
        for text in BAD_TEXTS + NO_WORDS:
            with self.assertRaises(BraidError) as caught:
                read_text(text)
            self.refused(type(caught.exception), combed, text)


if __name__ == "__main__":
    unittest.main()
