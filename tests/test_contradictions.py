"""Books that no filling keeps: points 23 and 24, where other holes could have any wires."""

import itertools
import unittest

from tests.helpers import fitting
from turnwires.books import Book
from turnwires.words import Word

KINDS = {"a": "wire", "b": "wire", "c": "wire", "d": "wire", "r": "swaps", "s": "swaps", "m": "mirror", "n": "mirror",
         "o": "swaps 1", "p": "swaps 1", "t": "swaps 2", "u": "swaps 3", "v": "swaps 3"}

# Sightings that contradict one another at every size, and others that share no hole with them.
CONTRADICTIONS = [
    [("b b", 0, 1), ("b b", 0, 2)], [("b", 0, 1), ("b", 2, 1)],
    [("b n ~b", 0, 1), ("b", 0, 2), ("b", 1, 3), ("n", 2, 4)],
    [("~b n b", 0, 0)], [("p", 0, 1), ("p", 2, 3)], [("v b v", 0, 1), ("v b v", 0, 2)], [("()", 0, 1)],
    [("b b b", 0, 0), ("b b", 0, 1), ("b", 0, 0)], [("b d", 0, 1), ("d", 2, 3), ("b", 0, 2)],
    [("s b s", 0, 1), ("s b s", 0, 2)],
]
OTHERS = [
    [("a a", 0, 1)], [("a", 0, 1)], [("r a r", 0, 1)], [("m a m", 0, 1), ("a a", 2, 3)], [("m (0,1) m", 0, 1)],
    [("r", 0, 0)], [("u (0,1) a", 1, 2), ("c c", 0, 0)], [("a", 0, 0), ("c a c", 1, 2), ("m", 3, 4)],
]
SIZES = [5, 6, 13, 14, 20, 37, 60]


def book_of(rows):
    book = Book()
    for text, start, end in rows:
        book.saw(Word.read(text, KINDS), start, end)
    return book


def fitting_sizes(rows):
    return fitting(SIZES, [Word.read(text, KINDS) for text, _, _ in rows], [4])


class NothingFitsTest(unittest.TestCase):
    """Points 23 and 24."""

    def check(self, rows):
        book = book_of(rows)
        with self.subTest(rows=rows):
            self.assertIsNone(book.least())
            for size in fitting_sizes(rows):
                self.assertEqual([book.many(size), book.fits(size)], [0, []])
            if not any(KINDS[name] == "swaps" for text, _, _ in rows for name in Word.read(text, KINDS).holes):
                self.assertEqual(book.share(), 0)

    def test_other_holes_come_first(self):
        for rows, others in itertools.product(CONTRADICTIONS, OTHERS):
            self.check([*others, *rows])

    def test_other_holes_come_last(self):
        for rows, others in itertools.product(CONTRADICTIONS, OTHERS):
            self.check([*rows, *others])

    def test_all_orders(self):
        for rows, others in zip(CONTRADICTIONS[:8], OTHERS):
            for order in itertools.permutations(rows + others):
                self.check(list(order))

    def test_the_other_holes_are_told_by_one_word(self):
        for text in ["a b ~b a", "a c m r", "r s r s", "m n m n", "u v a u v a"]:
            self.check([(text, 0, 1), ("d d", 0, 1), ("d d", 0, 2)])

    def test_a_contradiction_for_each_wire_of_one_hole(self):
        # Only when it is told where one hole leads do the other words have no hole in common.
        self.check([("a a", 3, 4), ("o a", 0, 1), ("o d d", 1, 2), ("o d d", 1, 3)])
        self.check([("c o c", 0, 1), ("o a o", 0, 0), ("a a", 0, 1), ("~a (0,1) o a", 0, 0), ("o", 0, 0), ("o", 1, 2)])
        self.check([("a o a", 0, 1), ("o b o", 2, 3), ("b o", 0, 1), ("b o", 0, 2)])

    def test_many_uses_beside_a_contradiction(self):
        word = "a (0,1) c (1,2) ~a (2,3) ~c (3,4) a (0,1) c (1,2) ~a (2,3) ~c a c ~a"
        self.check([(word, 0, 1), ("b b", 0, 1), ("b b", 0, 2)])


class FewFitTest(unittest.TestCase):
    """Point 23."""

    def test_the_order_of_the_sightings_makes_no_difference(self):
        for rows, size in [
            ([("t (0,1) t", 0, 2), ("o p", 0, 1), ("o", 2, 3)], 14), ([("o", 0, 0), ("p o p", 1, 2), ("p", 3, 4)], 40),
            ([("v o v", 0, 1), ("v", 0, 2), ("v", 1, 3), ("v", 4, 5)], 30), ([("o p", 0, 1), ("p t p", 0, 0)], 6),
            ([("a o a", 0, 1), ("o b o", 2, 3), ("a b", 3, 0), ("b", 3, 1)], 5), ([("m o m", 0, 1), ("o", 2, 3)], 12),
        ]:
            first = book_of(rows).fits(size)
            self.assertTrue(first)
            for order in itertools.permutations(rows):
                book = book_of(order)
                with self.subTest(rows=order, size=size):
                    self.assertEqual(book.fits(size), first)
                    self.assertEqual(book.many(size), len(first))


if __name__ == "__main__":
    unittest.main()
