"""Point 3, and the classes that the interface names."""

import unittest

from braidcomb import errors
from braidcomb.asking import combed, compared
from braidcomb.errors import BraidError
from braidcomb.forms import checked_form
from braidcomb.likeness import alike
from braidcomb.loom import Loom
from braidcomb.moves import move_back, moved
from braidcomb.pictures import read_picture
from braidcomb.rows import checked_row, row_of
from braidcomb.strings import doubled, without
from braidcomb.summits import summits
from braidcomb.ways import way
from braidcomb.words import checked
from braidcomb.wordtext import read_text
from tests.samples import REFUSALS, BraidCase

REFUSED = (
    (errors.NoWord, checked, (0, [])),
    (errors.NoWord, checked, (3, [3])),
    (errors.NoWord, read_text, ("8:",)),
    (errors.BadText, read_text, ("",)),
    (errors.NoMove, moved, (3, [1], ("out", 0))),
    (errors.NoMove, move_back, (3, [1], ("out", 0))),
    (errors.NoRow, checked_row, ([],)),
    (errors.NoRow, checked_row, ([1, 1],)),
    (errors.NoRow, row_of, (3, [-1])),
    (errors.NoRow, row_of, (3, [1, 1])),
    (errors.NoForm, checked_form, (1, (1, []))),
    (errors.NoForm, checked_form, (3, (0, [[0, 1, 2]]))),
    (errors.NoForm, checked_form, (3, (0, [[2, 1, 0]]))),
    (errors.NoForm, checked_form, (3, (0, [[0, 0, 0]]))),
    (errors.NoForm, checked_form, (3, (0, [[1, 0, 2], [0, 2, 1]]))),
    (errors.Unlike, way, (3, [1], [2])),
    (errors.Unlike, way, (3, [1, 1, 2, 2], [2, 2, 1, 1])),
    (errors.NoString, without, (3, [1], -1)),
    (errors.NoString, without, (3, [1], 3)),
    (errors.NoString, without, (1, [], 0)),
    (errors.NoString, doubled, (3, [1], -1)),
    (errors.NoString, doubled, (3, [1], 3)),
    (errors.NoString, doubled, (7, [1], 0)),
    (errors.BadPicture, read_picture, ("",)),
    (errors.BadPicture, read_picture, ("o u\n",)),
    (errors.BadPicture, read_picture, ("| |\n|\n",)),
    (errors.BadPicture, read_picture, ("| |\n||\n",)),
    (errors.BadPicture, read_picture, ("| |\no o\n",)),
    (errors.TooMany, summits, (3, [1], 1)),
    (errors.TooMany, summits, (3, [1], -1)),
    (errors.TooMany, summits, (4, [-2, -2, -2, 1, -3, 1])),
    (errors.TooMany, alike, (3, [1], [2], 1)),
    (errors.TooMany, alike, (4, [-2, -2, -2, 1, -3, 1], [-2, -2, -2, 1, -3, 1])),
    (errors.NoWord, Loom, (0,)),
    (errors.NoWord, Loom, (8,)),
    (errors.NoWord, Loom(3).hang, ([3],)),
    (errors.NoMove, Loom(3).drop, (1,)),
    (errors.NoMove, Loom(3).drop, (-1,)),
    (errors.NoMove, Loom(3).go, (("out", 0),)),
    (errors.BadText, combed, ("3",)),
    (errors.NoWord, combed, ("3: 3",)),
    (errors.BadText, compared, ("3", "3: 3")),
    (errors.NoWord, compared, ("3: 3", "3")),
    (errors.BadText, compared, ("3: 1", "3")),
    (errors.NoWord, compared, ("3: 1", "3: 3")),
)


class ErrorClasses(BraidCase):
    def test_braid_error_stands_under_value_error(self):
        self.assertEqual(BraidError.__bases__, (ValueError,))

    def test_each_refusal_stands_straight_under_braid_error(self):
        for refusal in REFUSALS:
            with self.subTest(refusal=refusal.__name__):
                self.assertEqual(refusal.__bases__, (BraidError,))

    def test_no_refusal_stands_under_another_one(self):
        for one in REFUSALS:
            under = [other for other in REFUSALS if issubclass(one, other)]
            self.assertEqual(under, [one])

    def test_names_are_the_interface_ones(self):
        self.assertEqual(
            [refusal.__name__ for refusal in REFUSALS],
            ["NoWord", "BadText", "NoMove", "NoRow", "NoForm", "Unlike", "NoString", "BadPicture", "TooMany"],
        )

    def test_each_is_made_with_a_text(self):
        for refusal in REFUSALS + (BraidError,):
            self.assertEqual(str(refusal("some words")), "some words")

    def test_each_refusal_is_caught_as_each_of_its_classes(self):
        for refusal, deed, given in REFUSED:
            for caught in (refusal, BraidError, ValueError):
                with self.subTest(deed=deed.__name__, caught=caught.__name__):
                    with self.assertRaises(caught):
                        deed(*given)

    def test_each_refusal_is_of_no_other_class(self):
        for refusal, deed, given in REFUSED:
            with self.subTest(deed=deed.__name__):
                self.refused(refusal, deed, *given)


if __name__ == "__main__":
    unittest.main()
