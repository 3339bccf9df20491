"""Point 15: braidcomb/wordtext.py."""

import unittest

from braidcomb.errors import BadText, NoWord
from braidcomb.wordtext import read_text, written
from tests.samples import MOST_STRINGS, BraidCase, Dice, crossings, sample_words, thrown_word

FIGURES = "0123456789"
# The signs that a text may have, but the blank: from ! to ~ without the percent sign, and the line feed.
SIGNS = [chr(code) for code in range(33, 127) if code != 37] + ["\n"]

# N stands for the figure of the strings, so that each one is asked with all ten figures.
WRONG = (
    "N", " N ", "N 1 2", "N 1: 2", "N-1",
    " ", "", ":", ": 1", " : 1", "1", "-1", "x",
    "N :", "N : 1", "  N  : 1", "N\n: 1", "N\n:",
    "NN: 1", "NN:", "0N:", "N0: 1", "N 4: 1", "-N: 1", "+N: 1", "- N: 1", "N-: 1", "xN:", "Nx:", "N.: 1",
    "N:1", "N:-1", "N:1 2", "N:12", "N:x", "N:1 ", "N:-", "N::", "N:: 1", "N: : 1", "N: 1:", "N: 1: 2", "N:N: 1",
    "N: 12", "N: 1 22", "N: -12", "N: 123", "N: 01", "N: 10", "N: 1 00",
    "N: 0", "N: -0", "N: 1 0", "N: 0 1", "N: 1 0 1", "N: 1 -0 1",
    "N: --1", "N: 1 --1", "N: -+1", "N: +-1", "N: ---1",
    "N: -", "N: 1 -", "N: - 1", "N: -  1", "N: 1 - 2", "N: -1 - ", "N: 1-", "N: 1 2-", "N: 1-2", "N: -1-",
    "N: +1", "N: +", "N: + 1", "N: 1 +1", "N: 1+",
    "N: 1,2", "N: 1, 2", "N: 1;", "N: 1.", "N: 1.0", "N: x", "N: a1", "N: 1a", "N: 1_1", "N: (1)", "N: 0x1", "N: 1/1",
    "\nN: 1", "N:\n1", "N:\n 1", "N: \n1", "N: 1\n", "N: 1 \n", "N: 1\n ", "N: 1\n2", "N: 1 \n 2", "N:\n", "\nN:", "N: \n",
    "\n", "N: -\n1", "N: 1\n\n",
)


class Written(BraidCase):
    def test_as_written(self):
        self.assertEqual(written(4, [1, -2, 3]), "4: 1 -2 3")
        self.assertEqual(written(4, []), "4:")
        self.assertEqual(written(7, [-6, 6, -1]), "7: -6 6 -1")

    def test_empty_word_and_one_string(self):
        for n in range(1, MOST_STRINGS + 1):
            self.assertEqual(written(n, []), FIGURES[n] + ":")

    def test_each_crossing(self):
        for n in range(2, MOST_STRINGS + 1):
            for k in range(1, n):
                self.assertEqual(written(n, [k]), FIGURES[n] + ": " + FIGURES[k])
                self.assertEqual(written(n, [-k]), FIGURES[n] + ": -" + FIGURES[k])

    def test_sign_by_sign(self):
        for n, word in sample_words():
            text = FIGURES[n] + ":"
            for k in word:
                text = text + (" -" if k < 0 else " ") + FIGURES[abs(k)]
            told = self.told(written, n, word)
            self.assertIs(type(told), str)
            self.assertEqual(told, text)


class ReadText(BraidCase):
    def assert_read(self, text, n, word):
        told = read_text(text)
        self.assertIs(type(told), tuple)
        self.assertIs(type(told[0]), int)
        self.assertIs(type(told[1]), list)
        self.assertTrue(all(type(k) is int for k in told[1]))
        self.assertEqual(told, (n, word), text[:80])

    def test_as_written(self):
        self.assert_read("4: 1 -2 3", 4, [1, -2, 3])
        self.assert_read("4:", 4, [])
        self.assert_read("1:", 1, [])
        self.assert_read("7: 6 -6 1 -1", 7, [6, -6, 1, -1])

    def test_there_and_back(self):
        for n, word in sample_words((0, 1, 2, 3, 9, 40, 333, 1999)):
            text = written(n, word)
            self.assert_read(text, n, word)
            self.assertEqual(written(*read_text(text)), text)

    def test_each_crossing_there_and_back(self):
        for n in range(1, MOST_STRINGS + 1):
            for k in crossings(n):
                self.assert_read(written(n, [k]), n, [k])

    def test_more_blanks_ahead_of_crossings(self):
        self.assert_read("4:  1", 4, [1])
        self.assert_read("4:   1    -2  3", 4, [1, -2, 3])
        dice = Dice(15)
        for n, word in sample_words((1, 2, 3, 9, 333)):
            pieces = [" " * (1 + dice.below(6)) + str(k) for k in word]
            self.assert_read(f"{n}:" + "".join(pieces), n, word)

    def test_blanks_at_both_ends(self):
        for ahead in ("", " ", "     "):
            for behind in ("", " ", "      "):
                self.assert_read(ahead + "4: 1 -2" + behind, 4, [1, -2])
                self.assert_read(ahead + "3:" + behind, 3, [])
                self.assert_read(ahead + "1:" + behind, 1, [])

    def test_texts_at_and_beyond_the_greatest_length(self):
        word = thrown_word(7, 1500)
        text = written(7, word)
        for length in (6000, 6100):
            blanks = length - len(text)
            self.assert_read(" " * blanks + text, 7, word)
            self.assert_read(text + " " * blanks, 7, word)
            self.assert_read("7:" + " " * blanks + text[2:], 7, word)

    def test_wrong_texts(self):
        for pattern in WRONG:
            for figure in FIGURES:
                text = pattern.replace("N", figure)
                with self.subTest(text=text):
                    self.refused(BadText, read_text, text)

    def test_wrong_texts_with_blanks_at_both_ends(self):
        for pattern in WRONG:
            text = "  " + pattern.replace("N", "3") + "  "
            with self.subTest(text=text):
                self.refused(BadText, read_text, text)

    def test_any_other_sign(self):
        for sign in SIGNS:
            with self.subTest(sign=sign):
                if sign not in FIGURES:
                    self.refused(BadText, read_text, sign + ": 1")
                if sign != ":":
                    self.refused(BadText, read_text, "4" + sign + " 1")
                if sign not in "123456789":
                    self.refused(BadText, read_text, "7: " + sign)
                    self.refused(BadText, read_text, "7: 1 -" + sign)
                    self.refused(BadText, read_text, "7: 1 " + sign + " 2")
                if sign != "-":
                    self.refused(BadText, read_text, "7: " + sign + "1")
                self.refused(BadText, read_text, "7: 1" + sign)
                self.refused(BadText, read_text, "7:" + sign)

    def test_a_fault_at_the_end_of_a_long_text(self):
        text = written(7, thrown_word(7, 1500))
        for tail in (" 0", "1", " --1", " -", " +1", " x", "\n", " 1\n"):
            self.refused(BadText, read_text, text + tail)

    def test_bad_text_goes_ahead_of_no_word(self):
        for text in ("0: x", "8: 0", "9: 1 12", "3: 9 x", "3: 3 0", "3: 3 -", "1: 1 1-", "3: 9\n", "0:1", "8:7", "8: 9 --1"):
            self.refused(BadText, read_text, text)

    def test_no_word_where_n_is_out_of_range(self):
        for figure in "089":
            for tail in ("", " ", " 1", " -1", "  1 -1  ", " 7", " 8 9"):
                self.refused(NoWord, read_text, figure + ":" + tail)
                self.refused(NoWord, read_text, "  " + figure + ":" + tail)

    def test_no_word_where_a_crossing_is_beyond_n(self):
        for n in range(1, MOST_STRINGS + 1):
            inner = "".join([f" {k}" for k in crossings(n)])
            for k in range(n, 10):
                for sign in (" ", " -"):
                    wrong = sign + FIGURES[k]
                    self.refused(NoWord, read_text, f"{n}:" + wrong)
                    self.refused(NoWord, read_text, f"{n}:" + inner + wrong)
                    self.refused(NoWord, read_text, f"{n}:" + wrong + inner)
                    self.refused(NoWord, read_text, f" {n}:" + inner + "  " + wrong + inner + " ")


if __name__ == "__main__":
    unittest.main()
