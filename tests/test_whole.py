"""What the document promises over the whole program, with its modules used together."""

import unittest

from braidcomb.asking import combed, compared
from braidcomb.counts import linked, profile, rings, sum_of, table
from braidcomb.errors import BadPicture, BadText, NoMove, NoWord, Unlike
from braidcomb.forms import form, form_joined, form_word, same
from braidcomb.likeness import alike
from braidcomb.loom import Loom
from braidcomb.moves import moved
from braidcomb.parts import parted
from braidcomb.pictures import picture, read_picture
from braidcomb.strings import doubled, without
from braidcomb.summits import summit, summits
from braidcomb.unfolding import unfolded
from braidcomb.ways import way
from braidcomb.words import order_of, turned
from braidcomb.wordtext import read_text, written
from tests.hanging import hanging
from tests.samples import MOST_STRINGS, BraidCase, Dice, crossings, sample_words, thrown_word, walk, walked

LONGEST = 24


def counts_of(n, word):
    return (
        order_of(n, word), sum_of(word), table(n, word), rings(n, word), linked(n, word), profile(n, word),
    )


def words_along(n, word, moves):
    found = [list(word)]
    for move in moves:
        found.append(moved(n, found[-1], move))
    return found


class SameOrNot(BraidCase):
    def assert_same(self, n, one, other):
        self.assertEqual(form(n, one), form(n, other))
        self.assertIs(same(n, one, other), True)
        self.assertEqual(walked(n, one, way(n, one, other)), other)
        self.assertEqual(compared(written(n, one), written(n, other)).split("\n")[0], "same")

    def assert_not_same(self, n, one, other):
        self.assertNotEqual(form(n, one), form(n, other))
        self.assertIs(same(n, one, other), False)
        self.refused(Unlike, way, n, one, other)
        self.assertEqual(compared(written(n, one), written(n, other)), "unlike\n")

    def test_words_that_exchanges_lead_to(self):
        for n in range(1, MOST_STRINGS + 1):
            for length in (0, 1, 3, 9, 18):
                for seed in range(4):
                    word = thrown_word(n, length, seed)
                    for other in walk(n, word, 40, Dice(seed))[::7]:
                        if len(other) <= LONGEST:
                            self.assert_same(n, word, other)

    def test_words_that_none_lead_to(self):
        for n in range(2, MOST_STRINGS + 1):
            for length in (0, 1, 3, 9, 18):
                word = thrown_word(n, length)
                for other in walk(n, word, 10, Dice(n))[::3]:
                    for k in crossings(n):
                        self.assert_not_same(n, word, [k] + other)
                if n > 2:
                    self.assert_not_same(n, word + [1, 1, 2, 2], word + [2, 2, 1, 1])

    def test_thrown_words_against_what_hangs_there(self):
        seen = {}
        for n in (2, 3, 4):
            for seed in range(150):
                one = thrown_word(n, 4, seed)
                other = thrown_word(n, 4, seed + 1000)
                answer = hanging(n, one) == hanging(n, other)
                seen[answer] = True
                if answer:
                    self.assert_same(n, one, other)
                else:
                    self.assert_not_same(n, one, other)
        self.assertEqual(len(seen), 2)

    def test_parts_and_unfolded_words_are_the_same(self):
        for n, word in sample_words((0, 1, 2, 4, 6)):
            x, y = parted(n, word)
            for other in (turned(x) + y, unfolded(n, word)[1], form_word(n, form(n, word))):
                if len(other) <= LONGEST:
                    self.assert_same(n, word, other)


class Counts(BraidCase):
    def test_counts_of_the_form_and_along_a_way(self):
        for n in range(1, MOST_STRINGS + 1):
            for length in (0, 1, 3, 9, 18):
                word = thrown_word(n, length)
                counts = counts_of(n, word)
                self.assertEqual(counts_of(n, form_word(n, form(n, word))), counts)
                for other in walk(n, word, 20, Dice(n))[-1:]:
                    if len(other) <= LONGEST:
                        for each in words_along(n, word, way(n, word, other)):
                            self.assertEqual(counts_of(n, each), counts)

    def test_counts_along_unfolding(self):
        for n, word in sample_words((2, 9, 30)):
            counts = counts_of(n, word)
            for each in words_along(n, word, unfolded(n, word)[0]):
                self.assertEqual(counts_of(n, each), counts)

    def test_counts_of_long_words(self):
        for n, word in sample_words((333, 1000)):
            self.assertEqual(counts_of(n, form_word(n, form(n, word))), counts_of(n, word))

    def test_alike_words_have_one_profile(self):
        for n in range(1, 5):
            for seed in range(5):
                word = thrown_word(n, 6, seed)
                t = thrown_word(n, 3, seed)
                other = turned(t) + word + t
                self.assertEqual(profile(n, other), profile(n, word))
                self.assertEqual(summits(n, other, 1000), summits(n, word, 1000))
                self.assertEqual(alike(n, word, other, 1000)[0], "alike")
                self.assertEqual(profile(n, form_word(n, summit(n, word)[0])), profile(n, word))


class FromTexts(BraidCase):
    def test_a_loom_from_texts_and_pictures(self):
        for n, word in sample_words((0, 1, 9, 40)):
            other = thrown_word(n, 12, 5)
            loom = Loom(n)
            loom.hang(read_text(written(n, word))[1])
            loom.hang(read_picture(picture(n, other))[1])
            self.assertEqual(loom.now(), word + other)
            self.assertEqual(loom.form_now(), form_joined(n, form(n, word), form(n, other)))
            self.assertEqual(loom.rings_now(), rings(n, word + other))
            self.assertEqual(read_picture(picture(n, loom.now())), read_text(written(n, loom.now())))
            loom.drop(len(other))
            self.assertEqual(written(n, loom.now()), written(n, word))
            self.assertTrue(loom.undo() and loom.undo())
            self.assertEqual(picture(n, loom.now()), picture(n, word))

    def test_a_loom_goes_along_a_way(self):
        for n, word in sample_words((0, 1, 5, 12)):
            for other in walk(n, word, 15, Dice(n))[-1:]:
                loom = Loom(n)
                loom.hang(word)
                moves = way(n, word, other)
                for move in moves:
                    self.assertIsNone(loom.go(move))
                    self.assertEqual(loom.rings_now(), rings(n, word))
                self.assertEqual(loom.now(), other)
                self.assertEqual(loom.form_now(), form(n, word))
                for _ in moves:
                    self.assertIs(loom.undo(), True)
                self.assertEqual(loom.now(), word)

    def test_refused_texts_leave_a_loom_as_it_was(self):
        loom = Loom(3)
        for text in ("3: 1 2", "3: 3", "3: x", "4: 3 1"):
            try:
                loom.hang(read_text(text)[1])
            except (NoWord, BadText):
                pass
        for text in ("| | |\no u |\n", "| | |\no |\n", "| | | |\n| | o u\n"):
            try:
                loom.hang(read_picture(text)[1])
            except (NoWord, BadPicture):
                pass
        self.refused(NoMove, loom.drop, 4)
        self.assertEqual(loom.now(), [1, 2, 1])
        self.assertEqual(loom.form_now(), (1, []))

    def test_combed_texts(self):
        for n, word in sample_words((0, 1, 9, 24)):
            for other in walk(n, word, 5, Dice(n)):
                self.assertEqual(combed(written(n, other)), combed(written(n, word)))

    def test_strings_of_words_that_are_the_same(self):
        for n, word in sample_words((1, 5, 9)):
            for other in walk(n, word, 8, Dice(n))[-1:]:
                for s in range(n):
                    if n > 1:
                        self.assertIs(same(n - 1, without(n, word, s), without(n, other, s)), True)
                    if n < MOST_STRINGS:
                        self.assertIs(same(n + 1, doubled(n, word, s), doubled(n, other, s)), True)


if __name__ == "__main__":
    unittest.main()
