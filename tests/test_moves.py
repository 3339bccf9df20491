"""Points 21 and 22: braidcomb/moves.py."""

import unittest

from braidcomb.errors import NoMove
from braidcomb.moves import move_back, moved, moves_of
from braidcomb.words import checked, order_of
from tests.samples import MOST_STRINGS, VAST, BraidCase, all_words, crossings, sample_words, thrown_word

SIGNS = (1, -1)


def out_pieces(n):
    return {(k, -k): () for k in crossings(n)}


def far_pieces(n):
    pieces = {}
    for low in range(1, n):
        for high in range(low + 2, n):
            for one in (low, -low):
                for other in (high, -high):
                    pieces[(one, other)] = (other, one)
                    pieces[(other, one)] = (one, other)
    return pieces


def near_pieces(n):
    pieces = {}
    for low in range(1, n - 1):
        for sign in SIGNS:
            a = sign * low
            b = sign * (low + 1)
            pieces[(a, b, a)] = (b, a, b)
            pieces[(b, a, b)] = (a, b, a)
    return pieces


class Pieces:
    """The pieces of a word that each exchange knows, all written out, and what they become."""

    def __init__(self, n):
        self.n = n
        self.by_name = {"out": out_pieces(n), "far": far_pieces(n), "near": near_pieces(n)}

    def behind(self, word, move):
        """The word behind an exchange that does not put in; None where it can't be done."""
        name, p = move
        many = 3 if name == "near" else 2
        if p not in range(len(word) - many + 1):
            return None
        piece = self.by_name[name].get(tuple(word[p:p + many]))
        if piece is None:
            return None
        return list(word[:p]) + list(piece) + list(word[p + many:])

    def moves(self, word):
        found = []
        for p in range(len(word)):
            for name in ("out", "far", "near"):
                if self.behind(word, (name, p)) is not None:
                    found.append((name, p))
        return found


def surroundings(n):
    """Words to stand ahead of a piece and behind it: begin, middle and end of a word."""
    one = thrown_word(n, 3, 1)
    other = thrown_word(n, 4, 2)
    return (([], []), ([], other), (one, []), (one, other), (thrown_word(n, 1999, 3), thrown_word(n, 1998, 4)))


class MoveCase(BraidCase):
    def assert_done(self, n, word, move, behind, back):
        self.assertEqual(self.told_word(moved, n, word, move), behind)
        told_back = self.told(move_back, n, word, move)
        self.assertIs(type(told_back), tuple)
        self.assertEqual(told_back, back)
        self.assertEqual(moved(n, behind, told_back), word)

    def assert_not_done(self, n, word, move):
        self.refused(NoMove, moved, n, word, move)
        self.refused(NoMove, move_back, n, word, move)


class Done(MoveCase):
    def test_as_written(self):
        self.assert_done(4, [3, 1, -1, 2], ("out", 1), [3, 2], ("in", 1, 1))
        self.assert_done(4, [3, -1, 1, 2], ("out", 1), [3, 2], ("in", 1, -1))
        self.assert_done(4, [3, 2], ("in", 1, -3), [3, -3, 3, 2], ("out", 1))
        self.assert_done(4, [2, 1, -3, 2], ("far", 1), [2, -3, 1, 2], ("far", 1))
        self.assert_done(4, [3, 1, 2, 1], ("near", 1), [3, 2, 1, 2], ("near", 1))
        self.assert_done(4, [-2, -3, -2, 1], ("near", 0), [-3, -2, -3, 1], ("near", 0))

    def test_out_at_each_place(self):
        for n in range(2, MOST_STRINGS + 1):
            for ahead, behind in surroundings(n):
                for k in crossings(n):
                    p = len(ahead)
                    self.assert_done(n, ahead + [k, -k] + behind, ("out", p), ahead + behind, ("in", p, k))

    def test_in_at_each_place(self):
        for n in range(2, MOST_STRINGS + 1):
            for ahead, behind in surroundings(n):
                for k in crossings(n):
                    p = len(ahead)
                    self.assert_done(n, ahead + behind, ("in", p, k), ahead + [k, -k] + behind, ("out", p))

    def test_in_of_the_empty_word(self):
        for n in range(2, MOST_STRINGS + 1):
            for k in crossings(n):
                self.assert_done(n, [], ("in", 0, k), [k, -k], ("out", 0))

    def test_far_and_near_at_each_place(self):
        for n in range(2, MOST_STRINGS + 1):
            for ahead, behind in surroundings(n):
                for name, pieces in (("far", far_pieces(n)), ("near", near_pieces(n))):
                    for piece, other in pieces.items():
                        move = (name, len(ahead))
                        self.assert_done(n, ahead + list(piece) + behind, move, ahead + list(other) + behind, move)

    def test_the_longest_words(self):
        for n in range(2, MOST_STRINGS + 1):
            word = thrown_word(n, 4000)
            for p in (0, 1, 1999, 3999, 4000):
                self.assert_done(n, word, ("in", p, 1 - n), word[:p] + [1 - n, n - 1] + word[p:], ("out", p))

    def test_exchanges_keep_words_and_their_order(self):
        for n, word in sample_words((2, 5, 9, 40)):
            for move in moves_of(word) + [("in", len(word) // 2, k) for k in crossings(n)]:
                behind = moved(n, word, move)
                self.assertIs(checked(n, behind), True)
                self.assertEqual(order_of(n, behind), order_of(n, word))


class AgainstPieces(MoveCase):
    def check_word(self, pieces, word):
        n = pieces.n
        told = self.told(moves_of, word)
        self.assertIs(type(told), list)
        self.assertTrue(all(type(move) is tuple for move in told))
        self.assertEqual(told, pieces.moves(word))
        for p in range(-len(word) - 1, len(word) + 2):
            for name in ("out", "far", "near"):
                behind = pieces.behind(word, (name, p))
                if behind is None:
                    self.assert_not_done(n, word, (name, p))
                else:
                    back = ("in", p, word[p]) if name == "out" else (name, p)
                    self.assert_done(n, word, (name, p), behind, back)

    def test_all_short_words(self):
        for n, longest in ((1, 0), (2, 5), (3, 4), (4, 3), (5, 3)):
            pieces = Pieces(n)
            for word in all_words(n, longest):
                self.check_word(pieces, word)

    def test_sample_words(self):
        for n, word in sample_words((0, 1, 2, 3, 9, 40)):
            self.check_word(Pieces(n), word)

    def test_moves_of_long_words(self):
        for n, word in sample_words((333, 4000)):
            self.assertEqual(self.told(moves_of, word), Pieces(n).moves(word))


class MovesOf(MoveCase):
    def test_as_written(self):
        self.assertEqual(moves_of([1, 3, 2, 3, -3, 1, 1]), [("far", 0), ("near", 1), ("out", 3), ("far", 4)])
        self.assertEqual(moves_of([1, -1, 1]), [("out", 0), ("out", 1)])
        self.assertEqual(moves_of([1, 2, 1, 2]), [("near", 0), ("near", 1)])
        self.assertEqual(moves_of([-1, -2, -1, 5, -3]), [("near", 0), ("far", 2), ("far", 3)])

    def test_words_without_any(self):
        for word in ([], [1], [1, 1], [1, 2], [1, -2, 1], [1, 2, -1], [-1, 2, -1], [2, 2, 2], [1, 2, 3]):
            self.assertEqual(moves_of(word), [])

    def test_by_rising_p_and_no_two_at_one(self):
        for _, word in sample_words():
            places = [move[1] for move in moves_of(word)]
            self.assertEqual(places, sorted(set(places)))


class NotDone(MoveCase):
    def test_places_out_of_range(self):
        for n, word in sample_words((0, 1, 2, 5, 40, 4000)):
            length = len(word)
            for p in (-1, -2, -3, -length, -length - 1, length, length + 1, 10 ** 30, -10 ** 30, VAST, -VAST):
                for name in ("out", "far", "near"):
                    self.assert_not_done(n, word, (name, p))
            for name in ("out", "far", "near"):
                self.assert_not_done(n, word, (name, length - 1))
            self.assert_not_done(n, word, ("near", length - 2))

    def test_places_that_would_fit_if_counted_from_the_end(self):
        for word, name in (([1, -1], "out"), ([1, 3], "far"), ([1, 2, 1], "near")):
            for p in range(-2 * len(word), 0):
                self.assert_not_done(4, word * 2, (name, p))
                self.assert_not_done(4, word, (name, p))

    def test_pieces_that_the_end_cuts_off(self):
        self.assert_not_done(4, [1, 1], ("out", 1))
        self.assert_not_done(4, [-1, 1], ("out", 1))
        self.assert_not_done(4, [1, 3], ("far", 1))
        self.assert_not_done(4, [1, 2], ("near", 0))
        self.assert_not_done(4, [1, 2, 1], ("near", 1))
        self.assert_not_done(4, [2, 1, 2, 1], ("near", 2))
        for name in ("out", "far", "near"):
            self.assert_not_done(4, [], (name, 0))

    def test_putting_in_out_of_range(self):
        for n, word in sample_words((0, 1, 2, 5, 4000)):
            length = len(word)
            for k in crossings(n):
                for p in (-1, -2, -length - 1, length + 1, length + 2, 10 ** 30, -10 ** 30, VAST, -VAST):
                    self.assert_not_done(n, word, ("in", p, k))
            for k in (0, n, -n, n + 1, -n - 1, 10 ** 30, -10 ** 30, VAST, -VAST):
                for p in (0, length // 2, length):
                    self.assert_not_done(n, word, ("in", p, k))

    def test_one_string_has_nothing_to_exchange(self):
        for move in (("out", 0), ("far", 0), ("near", 0), ("in", 0, 1), ("in", 0, -1), ("in", 0, 0)):
            self.assert_not_done(1, [], move)

    def test_neighbours_that_do_not_fit(self):
        for word in ([1, 1], [-1, -1], [1, 2], [1, -2], [-1, 2], [2, 1], [1, 3], [-1, 3]):
            self.assert_not_done(5, word, ("out", 0))
        for word in ([1, 1], [1, -1], [-1, 1], [1, 2], [2, 1], [1, -2], [-1, 2], [-2, 1], [2, -1], [-3, -4]):
            self.assert_not_done(5, word, ("far", 0))
        for word in (
            [1, 2, 2], [1, 1, 2], [1, 1, 1], [1, 2, 3], [1, 3, 1], [1, 4, 1], [3, 1, 3],
            [1, 2, -1], [-1, 2, 1], [1, -2, 1], [-1, 2, -1], [-1, -2, 1], [1, -2, -1], [-2, -1, 2],
            [1, -1, 1], [-1, 1, -1], [2, -1, 2], [-2, 1, -2], [-1, -3, -1], [3, 2, 1], [1, 2, 4],
        ):
            self.assert_not_done(5, word, ("near", 0))

    def test_neighbours_that_do_not_fit_within_a_long_word(self):
        for n in range(2, MOST_STRINGS + 1):
            word = [1] * 4000
            for p in (0, 1999, 3997):
                for name in ("out", "far", "near"):
                    self.assert_not_done(n, word, (name, p))


if __name__ == "__main__":
    unittest.main()
