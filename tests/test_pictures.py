"""Points 71 and 72: braidcomb/pictures.py."""

import itertools
import unittest

from braidcomb.errors import BadPicture
from braidcomb.pictures import picture, read_picture
from tests.samples import LENGTHS, MOST_STRINGS, BraidCase, all_words, crossings, sample_words

DRAWN = (
    (1, [], "|\n"),
    (2, [], "| |\n"),
    (7, [], "| | | | | | |\n"),
    (2, [1], "| |\no u\n"),
    (2, [-1], "| |\nu o\n"),
    (2, [1, -1], "| |\no u\nu o\n"),
    (3, [1, 2], "| | |\no u |\n| o u\n"),
    (3, [2, -1], "| | |\n| o u\nu o |\n"),
    (4, [1, 3], "| | | |\no u o u\n"),
    (4, [-1, 3], "| | | |\nu o o u\n"),
    (4, [1, -3], "| | | |\no u u o\n"),
    (4, [-1, -3], "| | | |\nu o u o\n"),
    (4, [3, 1], "| | | |\n| | o u\no u | |\n"),
    (4, [1, 3, 2, -3], "| | | |\no u o u\n| o u |\n| | u o\n"),
    (5, [1, 4, 2], "| | | | |\no u | o u\n| o u | |\n"),
    (5, [2, 4, 4, 1, -3, 1], "| | | | |\n| o u o u\n| | | o u\no u u o |\no u | | |\n"),
    (6, [1, 3, 5, 1], "| | | | | |\no u o u o u\no u | | | |\n"),
    (6, [1, 5, 3], "| | | | | |\no u | | o u\n| | o u | |\n"),
    (7, [1, 3, -6, -2, 4, 6], "| | | | | | |\no u o u | u o\n| u o o u o u\n"),
    (7, [-6], "| | | | | | |\n| | | | | u o\n"),
)

SOUND = (
    ("| |\n| |\n", (2, [])),
    ("|\n|\n|\n", (1, [])),
    ("| | |\n| | |\no u |\n| | |\n| u o\n| | |\n", (3, [1, -2])),
    ("| | | |\n| | o u\nu o | |\n", (4, [3, -1])),
    ("| | | | |\n| u o | |\no u | u o\n", (5, [-2, 1, -4])),
    ("| | | | | | |\no u | u o | |\n| | | | | | |\n| o u o u o u\n", (7, [1, -4, 2, 4, 6])),
    # Here picture would have put both into one line.
    ("| | | |\no u | |\n| | o u\n", (4, [1, 3])),
)

BAD = (
    "", "\n", "\n\n", " \n", "|", "| |", "||\n", "|  |\n", "| | \n", " | |\n", " \n|\n",
    "o u\n", "| o u\n", "u o\nu o\n", "o\n", "x\n", "| x |\n", "| - |\n", "|,|\n", "|\t|\n",
    "| | | | | | | |\n", "| | | | | | | |\no u | | | | | |\n", "| | | | | | | | | |\n",
    "| |\no u", "| |\no u\n\n", "| |\n\no u\n", "\n| |\n", "\n| |\no u\n", "| |\n\n",
    "| |\n|\n", "| |\n| | |\n", "| | |\no u\n", "| |\no u |\n", "|\n| |\n", "|\no u\n", "| |\n|\n| |\n",
    "| |\no u \n", "| |\n o u\n", "| |\nou\n", "| |\no  u\n", "| |\nou \n", "| |\n ou\n", "| |\n   \n", "| |\no-u\n",
    "| | |\no u| \n", "| | |\n|o u \n", "| | |\no  u|\n", "| | |\n| |||\n", "| | |\no u||\n",
    "| |\nx |\n", "| |\no x\n", "| |\nO U\n", "| |\n0 u\n", "| |\n! !\n", "| |\n1 1\n", "| |\n  |\n", "| |\n|  \n",
    "| |\no |\n", "| |\nu |\n", "| |\n| o\n", "| |\n| u\n", "| |\no o\n", "| |\nu u\n", "|\no\n", "|\nu\n",
    "| | |\no | u\n", "| | |\nu | o\n", "| | |\no u o\n", "| | |\nu o u\n", "| | |\no u u\n", "| | |\no o u\n",
    "| | |\nu u o\n", "| | | |\no u u u\n", "| | | |\no o u u\n", "| | | |\nu u o o\n", "| | | |\n| o u o\n",
    "| | | |\nu | | o\n", "| | | |\no u | u\n", "| |\r\no u\r\n", "| |\ro u\n", "| |\n| |\no u\no |\n",
)


def drawn_by_columns(n, word):
    """The picture, put together sign by sign in a table of lines that grows at its end."""
    lines = [{}]
    for k in word:
        place = abs(k)
        taken = lines[-1]
        if len(lines) == 1 or max(taken) > place - 2:
            taken = {}
            lines.append(taken)
        taken[place - 1] = "o" if k > 0 else "u"
        taken[place] = "u" if k > 0 else "o"
    return "".join(" ".join(line.get(place, "|") for place in range(n)) + "\n" for line in lines)


def sound_lines(n):
    """All lines of n strings behind the first one, with the crossings that each one writes."""
    ways = [([], [])]
    done = {}
    while ways:
        signs, word = ways.pop()
        if len(signs) == n:
            done[" ".join(signs)] = word
            continue
        ways.append((signs + ["|"], word))
        if len(signs) + 2 <= n:
            ways.append((signs + ["o", "u"], word + [len(signs) + 1]))
            ways.append((signs + ["u", "o"], word + [-len(signs) - 1]))
    return done


class Picture(BraidCase):
    def test_as_written(self):
        for n, word, text in DRAWN:
            told = self.told(picture, n, word)
            self.assertIs(type(told), str)
            self.assertEqual(told, text)

    def test_empty_word(self):
        for n in range(1, MOST_STRINGS + 1):
            self.assertEqual(picture(n, []), " ".join("|" * n) + "\n")

    def test_one_crossing(self):
        for n in range(2, MOST_STRINGS + 1):
            for k in crossings(n):
                signs = ["|"] * n
                signs[abs(k) - 1:abs(k) + 1] = "ou" if k > 0 else "uo"
                self.assertEqual(picture(n, [k]), " ".join("|" * n) + "\n" + " ".join(signs) + "\n")

    def test_against_a_table(self):
        for n, word in sample_words():
            self.assertEqual(self.told(picture, n, word), drawn_by_columns(n, word))
        for n, longest in ((2, 5), (3, 4), (4, 3), (5, 3), (6, 3), (7, 3)):
            for word in all_words(n, longest):
                self.assertEqual(picture(n, word), drawn_by_columns(n, word))

    def test_three_in_one_line(self):
        for signs in itertools.product((1, -1), repeat=3):
            word = [sign * place for sign, place in zip(signs, (1, 3, 5))]
            pairs = ["o u" if sign > 0 else "u o" for sign in signs]
            self.assertEqual(picture(6, word), "| | | | | |\n" + " ".join(pairs) + "\n")
            self.assertEqual(picture(6, list(reversed(word))).count("\n"), 4)

    def test_lines(self):
        for n, word in sample_words():
            lines = picture(n, word).split("\n")
            self.assertEqual(lines.pop(), "")
            self.assertEqual({len(line) for line in lines}, {2 * n - 1})


class ReadPicture(BraidCase):
    def told_word_of(self, text):
        told = self.told(read_picture, text)
        self.assertIs(type(told), tuple)
        self.assertIs(type(told[0]), int)
        self.assertIs(type(told[1]), list)
        self.assertTrue(all(type(k) is int for k in told[1]))
        return told

    def test_as_written(self):
        for n, word, text in DRAWN:
            self.assertEqual(self.told_word_of(text), (n, word))
        for text, told in SOUND:
            self.assertEqual(self.told_word_of(text), told)

    def test_pictures_of_words(self):
        for n, word in sample_words(LENGTHS):
            self.assertEqual(self.told_word_of(picture(n, word)), (n, word))
        for n, longest in ((1, 0), (2, 5), (3, 4), (4, 3), (5, 3), (6, 3), (7, 3)):
            for word in all_words(n, longest):
                self.assertEqual(read_picture(picture(n, word)), (n, word))

    def test_each_line(self):
        for n in range(1, MOST_STRINGS + 1):
            first = " ".join("|" * n) + "\n"
            for line, word in sound_lines(n).items():
                self.assertEqual(read_picture(first + line + "\n"), (n, word))
                self.assertEqual(read_picture(first * 2 + line + "\n" + first + line + "\n"), (n, word + word))

    def test_every_line_of_few_signs(self):
        for n in (1, 2, 3):
            first = " ".join("|" * n) + "\n"
            sound = sound_lines(n)
            for signs in itertools.product("|ou x", repeat=2 * n - 1):
                line = "".join(signs)
                text = first + line + "\n"
                if line in sound:
                    self.assertEqual(read_picture(text), (n, sound[line]))
                else:
                    self.refused(BadPicture, read_picture, text)

    def test_every_line_of_four_strings(self):
        sound = sound_lines(4)
        for signs in itertools.product("|oux ", repeat=4):
            line = " ".join(signs)
            for text in ("| | | |\n" + line + "\n", "| | | |\no u | |\n" + line + "\n| | | |\n"):
                if line in sound:
                    self.assertEqual(read_picture(text)[0], 4)
                else:
                    self.refused(BadPicture, read_picture, text)

    def test_every_text_of_few_signs(self):
        sound = {"|\n": (1, []), "|\n|\n": (1, []), "|\n|\n|\n": (1, []), "| |\n": (2, []), "| | |\n": (3, [])}
        for length in range(7):
            for signs in itertools.product("|ou \n", repeat=length):
                text = "".join(signs)
                if text in sound:
                    self.assertEqual(read_picture(text), sound[text])
                else:
                    self.refused(BadPicture, read_picture, text)

    def test_bad_pictures(self):
        for text in BAD:
            with self.subTest(text=text):
                self.refused(BadPicture, read_picture, text)

    def test_a_sign_that_is_none_of_the_three(self):
        others = [chr(code) for code in range(32, 127) if chr(code) not in "|ou%"]
        for sign in others:
            for text in (
                f"{sign}\n", f"| {sign}\n", f"| |\n{sign} |\n", f"| |\n| {sign}\n", f"| |\n{sign} {sign}\n",
                f"| | |\no {sign} u\n", f"| | |\no u {sign}\n",
            ):
                self.refused(BadPicture, read_picture, text)
            if sign != " ":
                self.refused(BadPicture, read_picture, f"|{sign}|\n")
                self.refused(BadPicture, read_picture, f"| |\no{sign}u\n")

    def test_a_sign_left_out_or_put_in(self):
        for n, word, text in DRAWN:
            for place in range(len(text)):
                less = text[:place] + text[place + 1:]
                more = text[:place] + " " + text[place:]
                self.refused(BadPicture, read_picture, less)
                self.refused(BadPicture, read_picture, more)

    def test_a_line_that_does_not_fit_at_the_end_of_a_long_text(self):
        for n, word in sample_words((400,)):
            text = picture(n, word)
            for line in ("", "|" * 14, " ".join("|" * (n + 1)), " ".join("|" * (n - 1)) if n > 1 else "o", "x"):
                self.refused(BadPicture, read_picture, text + line + "\n")
            self.refused(BadPicture, read_picture, text[:-1])

    def test_more_than_seven_strings(self):
        for n in (8, 9, 10, 70, 3000):
            self.refused(BadPicture, read_picture, " ".join("|" * n) + "\n")

    def test_a_word_is_told_behind_a_refusal_as_before_it(self):
        for text in BAD[:5]:
            self.refused(BadPicture, read_picture, text)
            self.assertEqual(read_picture("| |\no u\n"), (2, [1]))


if __name__ == "__main__":
    unittest.main()
