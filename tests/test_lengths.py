"""Lengths: points 20 and 21, and what point 1 says of them."""

import math
import time
import unittest

from tests.helpers import all_kinds, fillings, fillings_count, fitting
from turnwires.comparing import alike, parting
from turnwires.lengths import lengths, order
from turnwires.words import Word

A, B = Word.hole("a"), Word.hole("b")
S, M = Word.hole("s", "swaps"), Word.hole("m", "mirror")
C = Word.known([[0, 1]])
SAME = Word.same()
KINDS = {"a": "wire", "b": "wire", "s": "swaps", "r": "swaps", "m": "mirror", "n": "mirror", "z": "swaps 0",
         "o": "swaps 1", "p": "swaps 1", "t": "swaps 2", "u": "swaps 2", "v": "swaps 2"}
FINITE = [
    "()", "(0,1)", "(0,2)", "(0,1,2)(3,4)", "s", "m", "z", "o", "t", "(0,1) ~a (0,1) a", "(0,1,2) ~a (0,1) a",
    "~a (0,1) a", "a (0,1) ~a (0,2)", "(0,1) s", "s (0,1,2)", "(0,1) m", "(0,1,2) m", "m (0,3)", "(0,1) s (0,1) s",
    "(0,1) s (1,2) s", "(0,1) m (0,1) m", "(0,1) m (0,2) m", "(0,1) o", "(0,1) t", "o (0,1,2)", "o p", "o t", "t u",
    "(0,1) o (0,2) p", "(0,1) o (0,1) o", "o (0,1,2) o", "(0,1) s (0,1) o", "(0,1) m (0,2) o", "(0,2) z s",
    "s o", "m o", "s t", "m t", "~a o a", "~a s a", "a m ~a", "s o s", "o s o", "s m s", "m s m", "o p o", "s o p",
    "m o p", "t o t", "o p t", "z a z ~a", "a z ~a (0,1)", "~a ~b (0,1) b a", "~b (0,1) b (1,2)",
]
INFINITE = ["a", "~a", "a a", "a b", "s r", "m n", "s m", "a s", "m a", "(0,1) a", "a (0,1) a", "s (0,1) r", "o a",
            "s o r",
            "~a s a s", "a (0,1) ~a a a", "a z", "~a ~b a b", "s a s", "m (0,1) n (0,2)", "~a m b", "o m t s"]


def word_of(text):
    return Word.read(text, KINDS)


def rings_by_trying(word, size):
    """Return the lengths of all rings that fillings of this size have."""
    found = set()
    for wires in fillings(size, word.kinds):
        wire = word.filled(size, wires)
        found.update(len(ring) for ring in wire.rings())
        if any(wire[place] == place for place in range(size)):
            found.add(1)
    return found


class LengthsTest(unittest.TestCase):
    """Point 20."""

    def test_told_lengths(self):
        for text, pairs in [
            ("()", [(1, 1)]), ("(0,1)", [(1, 3), (2, 2)]), ("(0,2)", [(1, 3), (2, 3)]), ("(0,1,2)", [(1, 4), (3, 3)]),
            ("(0,1)(2,3,4)", [(1, 6), (2, 5), (3, 5)]), ("z", [(1, 1)]), ("s", [(1, 1), (2, 2)]), ("m", [(2, 2)]),
            ("o", [(1, 1), (2, 2)]), ("~a m a", [(2, 2)]), ("a s ~a", [(1, 1), (2, 2)]), ("s m s", [(2, 2)]),
            ("(0,1) ~a (0,1) a", [(1, 2), (2, 4), (3, 3)]), ("(0,1) s", [(1, 2), (2, 2), (3, 3), (4, 4)]),
            ("o p", [(1, 1), (2, 2), (3, 3)]), ("~a ~a (0,1) a a", [(1, 3), (2, 2)]),
            ("(0,1) m", [(1, 2), (2, 4), (4, 4)]), ("(0,5) z", [(1, 6), (2, 6)]),
        ]:
            with self.subTest(text=text):
                self.assertEqual(lengths(word_of(text)), pairs)

    def test_all_fillings_of_small_sizes(self):
        for text in FINITE:
            word = word_of(text)
            found = lengths(word)
            self.assertEqual(found, sorted(found))
            for size in fitting(range(1, 7), [word]):
                if fillings_count(size, word.kinds) <= 20000:
                    with self.subTest(text=text, size=size):
                        self.assertEqual({length for length, least in found if least <= size},
                                         rings_by_trying(word, size))

    def test_infinitely_many(self):
        for text in INFINITE:
            for word in (word_of(text), ~word_of(text), word_of(text) ** 2):
                with self.subTest(word=str(word)):
                    self.assertIsNone(lengths(word))
                    self.assertIsNone(order(word))

    def test_words_with_the_same_rings(self):
        for text in FINITE:
            word = word_of(text)
            with self.subTest(text=text):
                self.assertEqual(lengths(~word), lengths(word))

    def test_lists_are_new(self):
        word = C >> C.under(A)
        lengths(word).clear()
        self.assertEqual(lengths(word), [(1, 2), (2, 4), (3, 3)])
        self.assertEqual(str(word), "(0,1) ~a (0,1) a")


class OrderTest(unittest.TestCase):
    """Point 21."""

    def test_told_orders(self):
        for text, least in [("()", 1), ("(0,1)", 2), ("(0,1)(2,3,4)", 6), ("z", 1), ("m", 2), ("s", 2),
                            ("~a (0,1,2) a", 3),
                            ("(0,1) ~a (0,1) a", 6), ("(0,1) s", 12), ("(0,1) o", 6), ("o p", 6), ("a z ~a", 1)]:
            with self.subTest(text=text):
                self.assertEqual(order(word_of(text)), least)

    def test_least_common_multiple(self):
        for text in FINITE:
            word = word_of(text)
            with self.subTest(text=text):
                self.assertEqual(order(word), math.lcm(*[length for length, _ in lengths(word)]))

    def test_the_word_so_many_times_is_the_same(self):
        for text in FINITE:
            word = word_of(text)
            least = order(word)
            if least * len(word) > 24:
                continue
            with self.subTest(text=text):
                self.assertTrue(alike(word ** least, SAME))
                for less in range(1, least):
                    self.assertIsNotNone(parting(word ** less, SAME))


class LimitsTest(unittest.TestCase):
    def setUp(self):
        self.begin = time.perf_counter()

    def tearDown(self):
        self.assertLess(time.perf_counter() - self.begin, 30)

    def test_two_uses_and_three_places(self):
        for text, longest, least in [
            ("(0,1,2) ~a (0,1,2) a", 5, 30), ("(0,1,2) s (0,1,2) s", 5, 30), ("(0,1,2) t (0,1,2) u", 7, 420),
            ("(0,1,2) s (0,1,2) t", 10, 2520), ("(0,1,2) m (0,1,2) t", 10, 840), ("(0,1,2) t (0,1,2) t", 5, 30),
            ("(0,1,2) m (0,1,2) m", 3, 3), ("(0,1,2) s (0,1)", 4, 12),
        ]:
            with self.subTest(text=text):
                self.assertEqual(lengths(word_of(text))[-1][0], longest)
                self.assertEqual(order(word_of(text)), least)

    def test_three_uses_and_no_named_place(self):
        for text, longest, least in [("t u v", 7, 420), ("s t u", 10, 2520), ("m t u", 10, 840), ("~a t a", 2, 2),
                                     ("~a m a", 2, 2), ("s t s", 2, 2), ("t s t", 2, 2)]:
            with self.subTest(text=text):
                self.assertEqual(lengths(word_of(text))[-1][0], longest)
                self.assertEqual(order(word_of(text)), least)

    def test_words_without_uses(self):
        self.assertEqual(lengths(Word.known([list(range(60))])), [(1, 61), (60, 60)])
        self.assertEqual(order(Word.known([list(range(25)), list(range(25, 60))])), 175)

    def test_long_words_with_infinitely_many_lengths(self):
        for word in [A ** 60, (A >> C >> B) ** 30, (S >> C >> M) ** 30, (A >> C) ** 50]:
            self.assertIsNone(lengths(word))
            self.assertIsNone(order(word))

    def test_more_uses(self):
        self.assertEqual(lengths((C >> C.under(A)) ** 6), [(1, 2)])
        self.assertEqual(order((C >> C.under(A)) ** 2), 3)


class InterfaceTest(unittest.TestCase):
    def test_example(self):
        c = Word.known([[0, 1]])
        self.assertEqual([lengths(c >> c.under(Word.hole("a"))), order(c >> c.under(Word.hole("a"))),
                          lengths(Word.hole("a"))], [[(1, 2), (2, 4), (3, 3)], 6, None])


if __name__ == "__main__":
    unittest.main()
