"""Books: points 22 to 25, and what point 1 says of them."""

import itertools
import math
import random
import time
import unittest
from fractions import Fraction

from tests.helpers import Raising, all_kinds, fillings, fillings_count, fitting, value_of
from turnwires.books import Book
from turnwires.errors import NoPlace, NoShare, NoSighting, NoSize, TwoKinds
from turnwires.quotients import Quot
from turnwires.shares import reach_of, share
from turnwires.wires import Wire
from turnwires.words import Word

A, B = Word.hole("a"), Word.hole("b")
S, M = Word.hole("s", "swaps"), Word.hole("m", "mirror")
ZERO, ONE, TWO, THREE = (Word.hole(name, "swaps", most=most) for most, name in enumerate("zotu"))
C = Word.known([[0, 1]])
SAME = Word.same()
KINDS = {"a": "wire", "b": "wire", "c": "wire", "d": "wire", "s": "swaps", "r": "swaps", "m": "mirror", "n": "mirror",
         "z": "swaps 0", "o": "swaps 1", "p": "swaps 1", "t": "swaps 2", "u": "swaps 3", "v": "swaps 3"}
BOOKS = [
    [], [("()", 0, 0)], [("()", 2, 1)], [("(0,3)", 3, 0)], [("(0,3)", 0, 0)], [("a", 0, 0)], [("a", 0, 1)],
    [("~a", 0, 2)],
    [("a", 0, 1), ("a", 0, 1)], [("a", 0, 1), ("a", 0, 2)], [("a", 0, 1), ("a", 2, 1)], [("a a", 0, 0), ("a", 0, 1)],
    [("a a", 0, 1)], [("a a a", 0, 0), ("a", 1, 1)], [("a (0,1) a", 0, 1)], [("~a (0,1) a", 0, 2), ("a", 3, 0)],
    [("a a a a", 0, 1), ("a a a", 1, 0)], [("a b", 0, 0), ("b a", 0, 1)], [("~a b a", 0, 1), ("b", 2, 2)],
    [("a b ~a ~b", 0, 1)], [("a", 0, 1), ("b", 0, 2), ("a ~b", 3, 3)], [("s", 0, 1)], [("s", 0, 0), ("s", 1, 0)],
    [("s (0,1) s", 0, 1)], [("s (0,1,2) s", 0, 0), ("s", 3, 1)], [("s a", 0, 0), ("a s", 1, 2)], [("m", 0, 0)],
    [("m", 0, 2)],
    [("m (0,1) m", 0, 0)], [("m (0,1) m", 0, 1), ("m", 2, 3)], [("m n", 0, 1)], [("m n", 0, 0), ("n", 1, 2)],
    [("m a", 0, 0), ("a", 1, 0)], [("z", 0, 0)], [("z", 0, 1)], [("o", 0, 1), ("o", 2, 3)], [("o (0,1,2) o", 0, 0)],
    [("o", 0, 1), ("o", 2, 2)], [("t", 0, 1), ("t", 2, 3), ("t", 4, 4)], [("t", 0, 1), ("t", 2, 3), ("t", 4, 5)],
    [("t (0,1) t", 0, 2)], [("o t", 0, 1), ("t o", 0, 2)], [("u (0,2) u", 0, 1), ("u", 3, 4)],
    [("o s", 0, 1), ("s", 1, 2)],
    [("a", 0, 1), ("b", 0, 1), ("a b", 2, 2), ("~a b", 1, 1)], [("a (0,1) b", 0, 0), ("b (0,2) a", 0, 0)],
]


def book_of(rows):
    book = Book()
    for text, start, end in rows:
        book.saw(Word.read(text, KINDS), start, end)
    return book


def sightings(book):
    return [book[k] for k in range(len(book))]


def told(book):
    return [(str(word), start, end) for word, start, end in sightings(book)]


def kept(book, wires, size):
    return all(word.filled(size, wires)[start] == end for word, start, end in sightings(book))


def tried(book, word=SAME, numbers=(), most=3000):
    """Return those small sizes that fit, with all fillings of the holes of the book and the word."""
    words = [word, *(known for known, _, _ in sightings(book))]
    numbers = [*numbers, *(number for sighting in sightings(book) for number in sighting[1:])]
    kinds = all_kinds(words)
    return [(size, fillings(size, kinds)) for size in fitting(range(1, 7), words, numbers)
            if fillings_count(size, kinds) <= most]


def in_order(found, kinds):
    """Return fillings in the order of point 23."""
    return sorted(found, key=lambda wires: [place for name in kinds for place in wires[name].images()])


class SightingsTest(Raising):
    """Point 22."""

    def test_sightings_are_kept_in_a_row(self):
        book = Book()
        self.assertEqual(len(book), 0)
        self.assertIsNone(book.saw(A, 0, 1))
        book.saw(C >> B, 7, 0)
        book.saw(A, 0, 1)
        self.assertEqual(len(book), 3)
        self.assertEqual([book[0], book[1], book[2]], [(A, 0, 1), (C >> B, 7, 0), (A, 0, 1)])
        self.assertIsNone(book.forget(0))
        self.assertEqual(sightings(book), [(C >> B, 7, 0), (A, 0, 1)])
        book.forget(1)
        self.assertEqual(sightings(book), [(C >> B, 7, 0)])
        self.assertEqual(len(book), 1)

    def test_books_are_apart(self):
        one, other = Book(), Book()
        one.saw(A, 0, 1)
        self.assertEqual([len(one), len(other)], [1, 0])

    def test_no_place(self):
        book = book_of([("a", 0, 1)])
        wrong = Word.hole("a", "mirror")
        for start, end, place in [(-1, 0, -1), (0, -2, -2), (-1, -2, -1), (-10 ** 59, 5, -10 ** 59)]:
            for word in (A, wrong, SAME):
                self.raises(NoPlace, "place", place, book.saw, word, start, end)
        self.assertEqual(told(book), [("a", 0, 1)])

    def test_two_kinds(self):
        book = book_of([("a", 0, 1), ("t s", 0, 0), ("m", 1, 2)])
        for word, name in [
            (Word.hole("a", "mirror"), "a"), (Word.hole("a", "swaps") >> Word.hole("m"), "a"), (Word.hole("t"), "t"),
            (Word.hole("t", "swaps", most=3), "t"), (Word.hole("t", "swaps"), "t"),
            (Word.hole("s", "swaps", most=2), "s"),
            (B >> Word.hole("s") >> Word.hole("m", "swaps"), "m"), (Word.hole("t") >> Word.hole("s"), "s"),
        ]:
            self.raises(TwoKinds, "name", name, book.saw, word, 0, 0)
            self.raises(TwoKinds, "name", name, book.sure, word, 0)
            self.raises(TwoKinds, "name", name, book.guessed, word, 0, 0, len)
        self.assertEqual(len(book), 3)
        book.forget(0)
        book.saw(Word.hole("a", "mirror"), 0, 1)
        self.assertEqual(len(book), 3)

    def test_no_sighting(self):
        book = book_of([("a", 0, 1), ("a", 1, 2)])
        for k in (2, 3, -1, -2, 10 ** 59):
            self.raises(NoSighting, "k", k, book.forget, k)
            self.raises(NoSighting, "k", k, lambda: book[k])
        self.raises(NoSighting, "k", 0, Book().forget, 0)
        self.raises(NoSighting, "k", 0, lambda: Book()[0])
        self.assertEqual(told(book), [("a", 0, 1), ("a", 1, 2)])


class FillingsTest(Raising):
    """Point 23."""

    def test_all_fillings_of_small_sizes(self):
        for rows in BOOKS:
            book = book_of(rows)
            kinds = all_kinds([word for word, _, _ in sightings(book)])
            sizes = []
            for size, found in tried(book):
                found = in_order([wires for wires in found if kept(book, wires, size)], kinds)
                sizes.extend([size] if found else [])
                with self.subTest(rows=rows, size=size):
                    self.assertEqual(book.many(size), len(found))
                    self.assertEqual(book.fits(size), found)
                    self.assertEqual([list(wires) for wires in book.fits(size)], [list(kinds)] * len(found))
            with self.subTest(rows=rows):
                if sizes:
                    self.assertEqual(book.least(), sizes[0])
                elif book.least() is not None:
                    self.assertNotIn(book.least(), [size for size, _ in tried(book)])

    def test_told_least_sizes(self):
        for rows, size in [
            ([], 1), ([("()", 5, 5)], 6), ([("()", 5, 4)], None), ([("a", 0, 0)], 1), ([("a", 0, 59)], 60),
            ([("m", 0, 2)], 4), ([("m", 0, 0)], None), ([("m (0,1) m", 0, 0)], 4), ([("o", 0, 1), ("o", 2, 3)], None),
            ([("a a", 0, 1)], 3), ([("a a a a", 0, 1), ("a a a", 1, 0)], 7), ([("z", 8, 8)], 9), ([("(0,3)", 3, 0)], 4),
            ([("m", 0, 1), ("m n", 0, 2)], 4), ([("m", 0, 2), ("(0,6)", 1, 1)], 8),
            ([("a a", 0, 1), ("b b", 1, 0), ("a b", 0, 0)], 3), ([("a", 0, 1), ("a", 2, 1)], None),
        ]:
            with self.subTest(rows=rows):
                self.assertEqual(book_of(rows).least(), size)

    def test_each_greater_size_has_a_filling(self):
        for rows in BOOKS:
            book = book_of(rows)
            least = book.least()
            words = [word for word, _, _ in sightings(book)]
            numbers = [number for sighting in sightings(book) for number in sighting[1:]]
            for size in fitting(range(1, 14), words, numbers):
                with self.subTest(rows=rows, size=size):
                    self.assertIs(book.many(size) > 0, least is not None and size >= least)

    def test_no_size(self):
        for rows, sizes in [
            ([], [0, -1, -10 ** 59]), ([("a", 0, 3)], [3, 0, -1]), ([("a", 3, 0)], [3, 1]), ([("(1,4)", 0, 0)], [4, 2]),
            ([("m", 0, 1)], [1, 3, 59, 0]), ([("a", 0, 0), ("m a", 0, 0)], [1, 5]), ([("a", 0, 1), ("a", 0, 5)], [5]),
        ]:
            book = book_of(rows)
            for size in sizes:
                self.raises(NoSize, "size", size, book.many, size)
                self.raises(NoSize, "size", size, book.fits, size)
                self.raises(NoSize, "size", size, book.sure, SAME, 0, size)

    def test_a_book_without_sightings(self):
        book = Book()
        for size in (1, 2, 7, 60):
            self.assertEqual(book.many(size), 1)
            self.assertEqual(book.fits(size), [{}])
        self.assertEqual([book.least(), book.share(), book.reach(), book.core()], [1, 1, 1, None])
        book.saw(A, 0, 1)
        book.forget(0)
        self.assertEqual(book.fits(3), [{}])

    def test_order_of_several_holes(self):
        book = book_of([("b", 0, 1), ("a", 1, 1)])
        self.assertEqual([[str(wires["a"]), str(wires["b"])] for wires in book.fits(3)], [
            ["3 ()", "3 (0,1)"], ["3 ()", "3 (0,1,2)"], ["3 (0,2)", "3 (0,1)"], ["3 (0,2)", "3 (0,1,2)"],
        ])

    def test_lists_and_dicts_are_new(self):
        book = book_of([("a", 0, 1)])
        found = book.fits(2)
        found[0].clear()
        found.clear()
        self.assertEqual(book.fits(2), [{"a": Wire(2, [[0, 1]])}])


class ShareTest(Raising):
    """Point 24."""

    def test_shares_of_small_sizes(self):
        for rows in BOOKS:
            book = book_of(rows)
            words = [word for word, _, _ in sightings(book)]
            numbers = [number for sighting in sightings(book) for number in sighting[1:]]
            self.assertEqual(book.reach(), reach_of(words, numbers))
            if "swaps" in all_kinds(words).values():
                continue
            found = book.share()
            self.assertIsInstance(found, Quot)
            for size, wires in tried(book):
                if size >= book.reach():
                    with self.subTest(rows=rows, size=size):
                        held = [kept(book, filling, size) for filling in wires]
                        self.assertEqual(value_of(found, size), Fraction(sum(held), len(held)))

    def test_told_shares(self):
        for rows, text in [
            ([], "1"), ([("a", 0, 1)], "(1)/(n)"), ([("a", 0, 1), ("b", 0, 1)], "(1)/(n^2)"),
            ([("a", 0, 1), ("a", 1, 0)], "(1)/(n^2 - n)"), ([("a", 0, 1), ("a", 0, 2)], "0"),
            ([("m", 0, 1)], "(1)/(n - 1)"),
            ([("m", 0, 1), ("m", 2, 3)], "(1)/(n^2 - 4*n + 3)"), ([("o", 0, 1)], "(2)/(n^2 - n + 2)"),
        ]:
            self.assertEqual(str(book_of(rows).share()), text)

    def test_a_book_of_one_sighting(self):
        for text in ("a a (0,1) a", "~a (0,1) a", "o (0,1,2) o", "a m ~a", "t a t"):
            word = Word.read(text, KINDS)
            self.assertEqual(book_of([(text, 0, 2)]).share(), share(word, 0, 2))

    def test_reach(self):
        for rows, size in [
            ([], 1), ([("a", 0, 0)], 1), ([("a", 0, 0), ("a a", 0, 0)], 3),
            ([("a b", 0, 0), ("~a b", 0, 1), ("a", 1, 1)], 3),
            ([("a", 0, 9)], 10), ([("a", 8, 0)], 9), ([("(4,5)", 0, 0), ("a", 0, 1)], 6),
            ([("a a a a a a a", 0, 1)], 7),
        ]:
            self.assertEqual(book_of(rows).reach(), size)

    def test_no_share(self):
        for rows, name in [([("s", 0, 1)], "s"), ([("a", 0, 1), ("s r", 0, 1)], "r"), ([("s", 0, 0), ("r", 0, 0)], "r"),
                           ([("z", 0, 1), ("s", 0, 0)], "s")]:
            self.raises(NoShare, "name", name, book_of(rows).share)


class RandomBooksTest(unittest.TestCase):
    """Points 23 and 24, for books that nobody thought of."""

    def word(self, numbers, names):
        parts = []
        for _ in range(numbers.randint(0, 4)):
            if numbers.random() < 0.5:
                places = numbers.sample(range(4), numbers.randint(2, 3))
                parts.append("(" + ",".join(map(str, places)) + ")")
            parts.append(numbers.choice(["", "~"]) + numbers.choice(names))
        return " ".join(parts or ["()"])

    def test_all_fillings_of_small_sizes(self):
        numbers = random.Random(7)
        for _ in range(150):
            names = numbers.choice(["a", "ab", "as", "ao", "am", "st", "om", "op", "az", "mn", "t", "s"])
            rows = [(self.word(numbers, names), numbers.randrange(4), numbers.randrange(4))
                    for _ in range(numbers.randint(1, 4))]
            book = book_of(rows)
            kinds = all_kinds([word for word, _, _ in sightings(book)])
            quotient = None if "swaps" in kinds.values() else book.share()
            for size, wires in tried(book, most=600):
                found = in_order([filling for filling in wires if kept(book, filling, size)], kinds)
                with self.subTest(rows=rows, size=size):
                    self.assertEqual(book.many(size), len(found))
                    self.assertEqual(book.fits(size), found)
                    self.assertIs(bool(found), book.least() is not None and book.least() <= size)
                    if quotient is not None and size >= book.reach():
                        self.assertEqual(value_of(quotient, size), Fraction(len(found), len(wires)))


class SureTest(Raising):
    """Point 24."""

    def test_told_places(self):
        for rows, text, start, place in [
            ([], "()", 3, 3), ([], "(0,1)", 0, 1), ([], "a", 0, None), ([("a", 0, 1)], "a", 0, 1),
            ([("a", 0, 1)], "~a", 1, 0),
            ([("a", 0, 1)], "a", 1, None), ([("a", 0, 1), ("a a", 0, 0)], "a", 1, 0), ([("a", 0, 1)], "b ~b a", 0, 1),
            ([("a", 0, 1)], "b", 0, None), ([("a", 0, 1), ("a", 0, 2)], "a", 0, None),
            ([("a", 0, 1), ("a", 0, 2)], "()", 0, None),
            ([("o", 0, 1)], "o", 5, 5), ([("o", 0, 1)], "o (0,1) o", 0, 1), ([("m", 0, 1)], "m", 1, 0),
            ([("m", 0, 1)], "m", 2, None),
            ([("z", 0, 0)], "z", 7, 7), ([], "z", 7, 7), ([("a b", 0, 1), ("a", 0, 2)], "b", 2, 1), ([], "m m", 4, 4),
            ([("a a a", 0, 1), ("a a", 0, 0)], "a", 0, 1), ([("a a a", 0, 0), ("a a", 0, 0)], "a", 0, 0),
        ]:
            with self.subTest(rows=rows, text=text, start=start):
                self.assertEqual(book_of(rows).sure(Word.read(text, KINDS), start), place)
                self.assertEqual(book_of(rows).sure(Word.read(text, KINDS), start, None), place)

    def test_told_places_of_sizes(self):
        for rows, text, start, size, place in [
            ([], "a", 0, 1, 0), ([], "a", 0, 2, None), ([("a", 0, 0)], "a", 1, 2, 1), ([("a", 0, 0)], "a", 1, 3, None),
            ([("a", 0, 0), ("a", 1, 1)], "a", 2, 3, 2), ([("m", 0, 1)], "m", 2, 4, 3), ([("m", 0, 1)], "m", 2, 6, None),
            ([("m", 0, 1)], "m", 3, 4, 2), ([("a", 0, 1), ("a a", 0, 3)], "a", 1, 4, 3), ([], "m", 0, 2, 1),
            ([("a", 0, 1), ("a", 1, 0)], "a", 4, 5, None), ([("a a", 0, 0), ("a", 1, 1)], "a", 0, 2, 0),
            ([("a a", 0, 1)], "a", 0, 3, 2), ([("a a", 0, 1)], "a", 0, 4, None), ([("a a", 0, 1)], "a", 0, 2, None),
            ([("a", 0, 2)], "()", 1, 7, 1), ([("z", 0, 1)], "()", 1, 7, None),
        ]:
            with self.subTest(rows=rows, text=text, start=start, size=size):
                self.assertEqual(book_of(rows).sure(Word.read(text, KINDS), start, size), place)

    def test_all_fillings_of_small_sizes(self):
        for rows, text, start in itertools.product(BOOKS, ("a", "s", "m", "a (0,1) a", "o", "(0,2)", "~b a"), (0, 2)):
            book, word = book_of(rows), Word.read(text, KINDS)
            met = set()
            for size, found in tried(book, word, [start], 800):
                ends = {word.filled(size, wires)[start] for wires in found if kept(book, wires, size)}
                met |= ends
                with self.subTest(rows=rows, text=text, start=start, size=size):
                    self.assertEqual(book.sure(word, start, size), ends.pop() if len(ends) == 1 else None)
            # What is told for all sizes holds at these small ones.
            if len(met) > 1:
                with self.subTest(rows=rows, text=text, start=start):
                    self.assertIsNone(book.sure(word, start))
            elif met and book.sure(word, start) is not None:
                with self.subTest(rows=rows, text=text, start=start):
                    self.assertEqual(book.sure(word, start), met.pop())

    def test_the_place_of_all_sizes_is_that_of_each_size(self):
        for rows, text, start in itertools.product(BOOKS, ("a", "s", "m", "t", "(0,2) a", "a a"), (0, 1, 3)):
            book, word = book_of(rows), Word.read(text, KINDS)
            words = [word, *(known for known, _, _ in sightings(book))]
            numbers = [start, *(number for sighting in sightings(book) for number in sighting[1:])]
            # At 14 places all that can come of the start does, and unknown places are not the only one.
            with self.subTest(rows=rows, text=text, start=start):
                self.assertEqual(book.sure(word, start), book.sure(word, start, 14))
                self.assertEqual(fitting([14], words, numbers), [14])

    def test_order_of_the_errors(self):
        book = book_of([("a", 0, 3)])
        mirror = Word.hole("a", "mirror")
        self.raises(NoPlace, "place", -1, book.sure, mirror, -1, 0)
        self.raises(NoPlace, "place", -1, book.sure, A, -1)
        self.raises(TwoKinds, "name", "a", book.sure, mirror, 0, 0)
        for word, start, size in [(A, 0, 3), (A, 4, 4), (Word.known([[0, 8]]), 0, 8), (M, 0, 5), (A, 0, 0), (A, 0, -4)]:
            self.raises(NoSize, "size", size, book.sure, word, start, size)
        self.assertEqual(told(book), [("a", 0, 3)])


class CoreTest(unittest.TestCase):
    """Point 25."""

    def test_told_cores(self):
        for rows, numbers in [
            ([], None), ([("a", 0, 1)], None), ([("()", 0, 1)], [0]), ([("a", 0, 1), ("()", 0, 1)], [1]),
            ([("a", 0, 1), ("b", 0, 1), ("a", 0, 2)], [0, 2]), ([("a", 0, 1), ("a", 0, 2), ("a", 0, 3)], [0, 1]),
            ([("a", 5, 5), ("a", 0, 1), ("a a", 0, 2), ("a", 1, 3)], [1, 2, 3]), ([("m", 0, 0), ("a", 0, 0)], [0]),
            ([("o", 0, 1), ("o", 2, 3)], [0, 1]), ([("t", 0, 1), ("t", 2, 3), ("a", 0, 1), ("t", 4, 5)], [0, 1, 3]),
            ([("a", 0, 1), ("a", 1, 2), ("a a", 0, 0), ("z", 0, 1)], [3]),
            ([("a b", 0, 0), ("a", 0, 1), ("b", 1, 1)], [0, 1, 2]),
            ([("a", 0, 1), ("a", 1, 2), ("a", 2, 3), ("a", 3, 4), ("a a a a", 0, 0)], [0, 1, 2, 3, 4]),
            ([("a", 0, 1), ("b", 0, 1), ("a", 2, 1), ("b", 2, 1)], [0, 2]),
        ]:
            with self.subTest(rows=rows):
                self.assertEqual(book_of(rows).core(), numbers)

    def test_all_books(self):
        for rows in BOOKS + [one + other for one, other in itertools.product(BOOKS[5:25], BOOKS[9:14])]:
            if len(rows) > 5:
                continue
            with self.subTest(rows=rows):
                cores = [list(numbers) for many in range(len(rows) + 1)
                         for numbers in itertools.combinations(range(len(rows)), many)
                         if book_of([rows[k] for k in numbers]).least() is None]
                self.assertEqual(book_of(rows).core(), cores[0] if cores else None)

    def test_lists_are_new(self):
        book = book_of([("a", 0, 1), ("a", 0, 2)])
        book.core().clear()
        self.assertEqual(book.core(), [0, 1])


class Trouble(Exception):
    pass


class GuessedTest(Raising):
    """Point 25."""

    def test_what_work_returns(self):
        book = book_of([("a", 0, 1)])
        self.assertEqual(book.guessed(A >> A, 0, 0, lambda found: told(found)), [("a", 0, 1), ("a a", 0, 0)])
        self.assertIsNone(book.guessed(A, 0, 2, lambda found: found.least()))
        self.assertIs(book.guessed(A, 1, 2, lambda found: found), book)
        self.assertEqual(told(book), [("a", 0, 1)])

    def test_changes_by_work_are_taken_back(self):
        book = book_of([("a", 0, 1), ("b", 0, 2)])

        def work(found):
            found.forget(0)
            found.saw(B, 7, 7)
            found.saw(Word.hole("a", "mirror"), 0, 1)
            return len(found)

        self.assertEqual(book.guessed(B, 1, 1, work), 4)
        self.assertEqual(told(book), [("a", 0, 1), ("b", 0, 2)])
        book.saw(A, 3, 4)
        self.assertEqual(len(book), 3)

    def test_errors_of_work_go_on(self):
        book = book_of([("a", 0, 1)])
        trouble = Trouble("x")

        def work(found):
            found.forget(1)
            found.forget(0)
            raise trouble

        with self.assertRaises(Trouble) as caught:
            book.guessed(A, 1, 0, work)
        self.assertIs(caught.exception, trouble)
        self.assertEqual(told(book), [("a", 0, 1)])
        self.raises(NoSighting, "k", 9, book.guessed, A, 1, 0, lambda found: found.forget(9))
        self.assertRaises(KeyboardInterrupt, book.guessed, A, 1, 0, self.interrupt)
        self.assertEqual(told(book), [("a", 0, 1)])

    def interrupt(self, book):
        raise KeyboardInterrupt

    def test_guesses_within_guesses(self):
        book = book_of([("a", 0, 1)])

        def work(found):
            inner = found.guessed(A, 2, 3, lambda deeper: told(deeper))
            return inner, told(found)

        self.assertEqual(book.guessed(A, 1, 2, work), (
            [("a", 0, 1), ("a", 1, 2), ("a", 2, 3)], [("a", 0, 1), ("a", 1, 2)],
        ))
        self.assertEqual(told(book), [("a", 0, 1)])

    def test_errors_of_saw(self):
        book = book_of([("a", 0, 1)])
        called = []
        mirror = Word.hole("a", "mirror")
        self.raises(NoPlace, "place", -1, book.guessed, mirror, -1, -2, called.append)
        self.raises(NoPlace, "place", -2, book.guessed, mirror, 1, -2, called.append)
        self.raises(TwoKinds, "name", "a", book.guessed, mirror, 1, 2, called.append)
        self.assertEqual([called, told(book)], [[], [("a", 0, 1)]])


class UnchangedTest(unittest.TestCase):
    """Point 1."""

    def test_questions_change_nothing(self):
        book = book_of([("a (0,1) b", 0, 1), ("~a t", 2, 2), ("b", 0, 3)])
        before = told(book)
        book.least(), book.many(5), book.fits(4), book.share(), book.reach(), book.sure(A, 0), book.core()
        self.assertEqual(told(book), before)
        self.assertEqual(book[0][0].kinds, {"a": "wire", "b": "wire"})


class LimitsTest(unittest.TestCase):
    def setUp(self):
        self.begin = time.perf_counter()

    def tearDown(self):
        self.assertLess(time.perf_counter() - self.begin, 30)

    def check(self, rows, word=A, size=12):
        """Ask all questions, and compare the answers with one another."""
        book = book_of(rows)
        least, core, many = book.least(), book.core(), book.many(size)
        self.assertIs(least is None, core is not None)
        self.assertIs(many > 0, least is not None and least <= size)
        kinds = all_kinds([known for known, _, _ in sightings(book)])
        if "swaps" not in kinds.values():
            size = max(size, book.reach() + book.reach() % 2)
            many = book.many(size)
            whole = math.prod(all_wires(size, kind) for kind in kinds.values())
            self.assertEqual(value_of(book.share(), size), Fraction(many, whole))
        if least is not None and book.many(least) <= 20000:
            found = book.fits(least)
            self.assertEqual(len(found), book.many(least))
            self.assertTrue(all(kept(book, wires, least) for wires in found))
            self.assertEqual(in_order(found, kinds), found)
        if core is not None:
            self.assertIsNone(book_of([rows[k] for k in core]).least())
            for k in core:
                self.assertIsNotNone(book_of([rows[other] for other in core if other != k]).least())
        for start in range(5):
            place = book.sure(word, start)
            ends = [end for end in range(6) if book.guessed(word, start, end, lambda found: found.least()) is not None]
            self.assertEqual(place, ends[0] if len(ends) == 1 and ends[0] < 5 else None)
        return least

    def test_eight_sightings_with_sixteen_uses(self):
        for rows, least in [
            ([("a (0,1) b", 0, 0), ("b (0,2) c", 0, 0), ("c (1,2) a", 0, 0), ("a (2,3) c", 1, 1), ("c (3,4) b", 1, 1),
              ("b (0,4) a", 1, 1), ("a ~b", 2, 3), ("b ~c", 3, 4)], 5),
            ([("a (0,1,2) b", 0, 1), ("b (1,2) a", 1, 3), ("~a (2,3) b", 2, 4), ("b b", 3, 0), ("a ~b", 4, 2),
              ("a a", 0, 3),
              ("b (3,4) ~a", 1, 1), ("a (0,4) a", 2, 0)], None),
            ([("a b", 0, 1), ("c d", 1, 3), ("m n", 3, 0), ("a c", 4, 2), ("b d", 0, 3), ("m a", 1, 1), ("n b", 2, 0),
              ("c d", 0, 4)], 6),
            ([("u (0,1) v", 0, 2), ("v (0,2) u", 1, 3), ("t (1,2) o", 0, 3), ("t (2,3) t", 1, 1), ("o (3,4) t", 1, 4),
              ("v (0,4) v", 4, 2), ("u u", 2, 2), ("v t", 4, 4)], 5),
            ([("s (0,1) s", 0, 2), ("s (0,2) s", 1, 3), ("r (1,2) s", 0, 3), ("r (2,3) r", 1, 1), ("s (3,4) r", 1, 4),
              ("r (0,4) r", 4, 4), ("s r", 2, 2), ("r s", 4, 0)], None),
        ]:
            with self.subTest(rows=rows):
                self.assertEqual(self.check(rows), least)

    def test_fewer_sightings_with_sixteen_uses(self):
        known = "(0,1,2,3,4)"
        for rows, least in [
            ([(" ".join(["a", known] * 16), 0, 1)], 5), ([(" ".join(["a b"] * 8), 0, 1)], 3),
            ([(" ".join(["a b", known] * 8), 0, 1)], 5), ([(" ".join(["a b c d"] * 4), 0, 1)], 3),
            ([(" ".join(["m", known] * 16), 0, 1)], 8), ([(" ".join(["u", known] * 16), 0, 1)], 5),
            ([(" ".join(["a", known, "~a (0,2)(1,3)"] * 8), 0, 1)], 5), ([(" ".join(["a b ~a ~b"] * 4), 0, 0)], 1),
            ([(" ".join(["a (0,1) b (1,2) c (2,3) d (3,4)"] * 2), 0, 1)] * 2, 5),
            ([("a (0,1) b (1,2) ~a (2,3) ~b", 0, 1), ("a a (0,4) b b", 1, 2), ("b (0,3) a ~b a", 2, 3),
              ("~a b a a", 3, 4)], 5),
        ]:
            with self.subTest(rows=rows):
                self.assertEqual(self.check(rows, Word.read(known, {})), least)

    def test_size_60(self):
        self.assertEqual(book_of([("a", 0, 1)]).many(60), math.factorial(59))
        self.assertEqual(book_of([("a", 0, 1), ("b b", 59, 3)]).many(60), math.factorial(59) * math.factorial(58) * 58)
        self.assertEqual(book_of([("m", 0, 1)]).many(60), all_wires(58, "mirror"))
        self.assertEqual(book_of([("s", 0, 0)]).many(60), all_wires(59, "swaps"))
        self.assertEqual(book_of([("u", 0, 1)]).many(60), all_wires(58, "swaps 2"))

    def test_many_fillings(self):
        for rows, size, many in [
            ([("a (0,1) a", 0, 0), ("a", 2, 2)], 8, 600), ([("s (0,1) s", 0, 0)], 11, 23580),
            ([("m (0,1) m", 0, 1)], 14, 10395),
            ([("m (0,1) m", 0, 0)], 12, 9450), ([("o (0,1) p", 0, 2)], 60, 3482), ([("t (0,1) t", 0, 2)], 14, 56),
            ([("a b c d a b c d a b c d a b c d", 0, 1)], 3, 216), ([("a b a b", 0, 0), ("b a b a", 1, 2)], 5, 432),
            ([("a", 0, 0), ("a", 1, 1)], 9, 5040), ([("u", 0, 1)], 14, 1552), ([("s", 9, 9)], 11, 9496),
        ]:
            with self.subTest(rows=rows, size=size):
                book = book_of(rows)
                found = book.fits(size)
                self.assertEqual([len(found), book.many(size)], [many, many])
                self.assertTrue(all(kept(book, wires, size) for wires in found[::37]))


def all_wires(size, kind):
    """Return the number of the wires of this size and kind."""
    if kind == "wire":
        return math.factorial(size)
    most = int(kind.split()[1]) if " " in kind else size // 2
    counts = range(size // 2 if kind == "mirror" else 0, min(most, size // 2) + 1)
    return sum(math.comb(size, 2 * pairs) * math.prod(range(1, 2 * pairs, 2)) for pairs in counts)


class InterfaceTest(unittest.TestCase):
    def test_example(self):
        a = Word.hole("a")
        book = Book()
        book.saw(a, 0, 1)
        book.saw(a >> a, 0, 0)
        self.assertEqual([book.least(), book.many(4), book.sure(a, 1), str(book.share())], [2, 2, 0, '(1)/(n^2 - n)'])
        book.saw(a, 1, 1)
        self.assertEqual([book.least(), book.core()], [None, [0, 2]])


if __name__ == "__main__":
    unittest.main()
