"""Comparing: points 13 and 14, and what point 1 says of them."""

import itertools
import math
import time
import unittest

from tests.helpers import Raising, fillings, fitting
from turnwires.comparing import Parting, alike, alike_at, comes, parting
from turnwires.errors import NoSize, TwoKinds
from turnwires.words import Word

A, B = Word.hole("a"), Word.hole("b")
S, M, N = Word.hole("s", "swaps"), Word.hole("m", "mirror"), Word.hole("n", "mirror")
ZERO, ONE, TWO = (Word.hole(name, "swaps", most=most) for most, name in enumerate("zot"))
C = Word.known([[0, 1]])
SAME = Word.same()
KINDS = {"a": "wire", "b": "wire", "s": "swaps", "m": "mirror", "n": "mirror", "z": "swaps 0", "o": "swaps 1",
         "t": "swaps 2"}
PAIRS = [
    ("()", "()"), ("(0,1)", "()"), ("(0,1)", "(1,2)"), ("(0,1)", "(0,1)"), ("(0,4)", "()"), ("a", "a"), ("a", "~a"),
    ("a", "b"), ("a", "()"), ("a a", "()"), ("a a a", "()"), ("a a a a", "()"), ("a a", "~a"), ("a b", "b a"),
    ("a (0,1)", "(0,1) a"), ("~a (0,1) a (0,1)", "(0,1) ~a (0,1) a"), ("s", "()"), ("s", "~s"), ("s a", "a s"),
    ("s (0,1) s (0,1)", "()"), ("m", "()"), ("m n", "()"), ("m n", "n m"), ("m (0,1)", "(0,1) m"),
    ("m n m n", "()"), ("(0,1) m", "m"), ("a m", "a"), ("a m", "m a"), ("m s", "()"),
    ("z", "()"), ("a z ~a", "z"), ("z (0,3)", "(0,3) z"), ("o", "()"), ("o (0,1)", "(0,1) o"), ("a o", "o a"),
    ("o (0,1) o (0,1) o (0,1) o (0,1) o (0,1) o (0,1)", "()"), ("o (0,1) o (0,1) o (0,1)", "(0,1) o (0,1) o (0,1) o"),
    ("o (0,1) o (0,1) o (0,1)", "()"), ("o s", "s o"), ("o m", "m o"), ("t", "o"), ("t (0,1) t", "(0,1)"),
    ("~a (0,1) a (0,1) ~a (0,1) a (0,1) ~a (0,1) a (0,1)", "(0,1) ~a (0,1) a (0,1) ~a (0,1) a (0,1) ~a (0,1) a"),
    ("(0,1) ~a (0,1) a (0,1) ~a (0,1) a", "()"), ("a (0,1,2)", "(0,1,2) a"), ("(0,2) a (1,3)", "a"),
    ("o (0,1,2) o (0,1,2) o (0,1,2)", "(2,1,0) o (2,1,0) o (2,1,0) o"),
    ("o (0,1,2) o (0,1,2) o (0,1,2) o (0,1,2) o (0,1,2) o (0,1,2) o (0,1,2) o (0,1,2) o (0,1,2) o (0,1,2)"
     " o (0,1,2) o (0,1,2)", "()"),
    ("o (0,1,2) o (0,1,2) o (0,1,2) o (0,1,2) o (0,1,2) o (0,1,2)", "()"),
    ("a (0,1) ~a (1,2) a (0,1,2)", "()"), ("a a (0,1,2) ~a ~a (0,1)", "()"),
]
TEXTS = sorted({text for pair in PAIRS for text in pair})


def word_of(text):
    return Word.read(text, KINDS)


def pairs():
    return [(word_of(one), word_of(other)) for one, other in PAIRS]


def small_sizes(words, numbers=()):
    """Return the sizes that fit and have not too many fillings to try them all."""
    holes = {name for word in words for name in word.holes}
    sizes = fitting(range(1, 6), words, numbers)
    return [size for size in sizes if math.factorial(size) ** len(holes) <= 600 or size < 4]


def part_with(p, q, size):
    """Tell if some filling of this size leads some place to different places, by trying all."""
    return any(p.filled(size, wires) != q.filled(size, wires) for wires in fillings(size, {**p.kinds, **q.kinds}))


class AlikeTest(Raising):
    """Point 13."""

    def test_words_that_are_alike(self):
        for p, q in [
            (SAME, SAME), (A, A), (C, Word.known([[1, 0]])), (A >> B, ~(~B >> ~A)), (M, ~M), (ZERO, SAME),
            (ZERO.under(A >> C >> B), ZERO), ((C >> ONE) ** 6, SAME), ((C >> C.under(A)) ** 6, SAME),
            ((ONE >> Word.known([[0, 1, 2]])) ** 12, SAME), ((C >> ONE) ** 5, ONE >> C),
            (M >> N >> ZERO, M >> N),
        ]:
            for one, other in [(p, q), (q, p)]:
                self.assertIs(alike(one, other), True)
                self.assertIsNone(parting(one, other))

    def test_words_that_are_not_alike(self):
        for p, q in [
            (A, SAME), (A, B), (A, ~A), (C, SAME), (S, SAME), (M, SAME), (M, N), (ONE, SAME), (ONE, TWO),
            (A ** 60, SAME), ((C >> ONE) ** 3, SAME), ((C >> ONE) ** 4, SAME),
            ((C >> S) ** 6, SAME), ((C >> M) ** 6, SAME),
            ((C >> C.under(A)) ** 3, SAME), (A >> B, B >> A), (Word.known([[58, 59]]), SAME),
        ]:
            for one, other in [(p, q), (q, p)]:
                self.assertIs(alike(one, other), False)
                self.assertIsInstance(parting(one, other), Parting)

    def test_all_fillings_of_small_sizes(self):
        for p, q in pairs():
            for size in small_sizes([p, q]):
                with self.subTest(p=str(p), q=str(q), size=size):
                    self.assertIs(alike_at(p, q, size), not part_with(p, q, size))
                    self.assertIs(alike_at(q, p, size), not part_with(p, q, size))

    def test_alike_words_are_alike_at_each_size(self):
        for p, q in pairs():
            with self.subTest(p=str(p), q=str(q)):
                bound = max(len({*p.named, *q.named}) + len(p) + len(q) + 1, max([*p.named, *q.named], default=0) + 1)
                sizes = fitting(range(1, bound + 2), [p, q])
                self.assertEqual([alike_at(p, q, size) for size in sizes], sorted(
                    [alike_at(p, q, size) for size in sizes], reverse=True))
                at_bound = alike_at(p, q, [size for size in sizes if size >= bound][0])
                self.assertIs(at_bound, alike(p, q))
                self.assertIs(alike_at(p, q, 10 ** 59), at_bound)

    def test_no_size(self):
        for p, q, sizes in [
            (SAME, SAME, [0, -1, -10 ** 59]), (A, B, [0]), (C, SAME, [1, 0]), (SAME, C, [1]), (M, SAME, [1, 3, 59, -2]),
            (A, M, [5]), (M, M, [7]), (Word.known([[0, 4]]), C, [2, 4]), (C, Word.known([[0, 4]]), [2, 4]),
            (M >> A, M >> A, [3]), (Word.known([[0, 4]]) >> A, Word.known([[0, 4]]) >> A, [4]),
        ]:
            for size in sizes:
                self.raises(NoSize, "size", size, alike_at, p, q, size)

    def test_sizes_that_fit(self):
        self.assertIs(alike_at(M >> C >> C, M, 2), True)
        self.assertIs(alike_at(M >> M, SAME, 1), True)
        self.assertIs(alike_at(C >> A, C >> A, 2), True)
        self.assertIs(alike_at(SAME, SAME, 1), True)

    def test_two_kinds(self):
        t = Word.hole("t", "swaps", most=3)
        for p, q, name in [
            (A, Word.hole("a", "swaps"), "a"), (TWO, t, "t"), (t, TWO, "t"), (S, Word.hole("s", "swaps", most=0), "s"),
            (A >> B >> S, Word.hole("s") >> Word.hole("b", "mirror"), "b"), (M, Word.hole("m"), "m"),
        ]:
            self.raises(TwoKinds, "name", name, alike, p, q)
            self.raises(TwoKinds, "name", name, parting, p, q)
            for size in (2, 1, 0, -5):
                self.raises(TwoKinds, "name", name, alike_at, p, q, size)

    def test_kinds_of_holes_of_the_one_form_alone(self):
        self.assertIs(alike(A >> ~A, Word.hole("a", "mirror") ** 2), True)
        self.assertIs(alike(A >> ~A >> B, Word.hole("a", "mirror") ** 2 >> B), True)


class PartingTest(Raising):
    """Point 13."""

    def check(self, p, q):
        """Check a parting, and that there is none at a lesser size as far as `alike_at` tells."""
        found = parting(p, q)
        kinds = {**p.kinds, **q.kinds}
        self.assertEqual(list(found.wires), sorted(kinds))
        self.assertTrue(0 <= found.place < found.size)
        one, other = (word.filled(found.size, found.wires) for word in (p, q))
        self.assertNotEqual(one[found.place], other[found.place])
        self.assertIs(alike_at(p, q, found.size), False)
        for size in fitting(range(1, found.size), [p, q]):
            self.assertIs(alike_at(p, q, size), True)
        return found.size

    def test_many_words(self):
        for p, q in pairs():
            if not alike(p, q):
                with self.subTest(p=str(p), q=str(q)):
                    self.assertEqual(self.check(p, q), self.check(q, p))

    def test_least_sizes_by_trying_all_fillings(self):
        for p, q in pairs():
            sizes = [size for size in small_sizes([p, q]) if part_with(p, q, size)]
            if sizes:
                with self.subTest(p=str(p), q=str(q)):
                    self.assertEqual(parting(p, q).size, sizes[0])

    def test_sizes(self):
        for p, q, size in [
            (A, SAME, 2), (A ** 2, SAME, 3), (A ** 6, SAME, 4), (A ** 12, SAME, 5), (A ** 60, SAME, 7),
            (M >> N, SAME, 4), (S, SAME, 2), (C, SAME, 2), (Word.known([[58, 59]]), SAME, 60), (C, C >> C, 2),
            (A >> Word.known([[6, 8]]), Word.known([[6, 8]]), 9), (M >> Word.known([[6, 8]]), Word.known([[6, 8]]), 10),
            (C.under(A), C, 3), (C.under(A >> B), C, 3), ((C >> C.under(A)) ** 2, SAME, 3),
            ((C >> C.under(A)) ** 3, SAME, 4),
            ((C >> ONE) ** 3, SAME, 2), ((C >> ONE) ** 2, SAME, 3), ((C >> ONE) ** 4, SAME, 3),
            ((C >> M) ** 4, M >> C >> M >> C, 4),
            ((ONE >> Word.known([[0, 1, 2]])) ** 6, SAME, 4), ((ONE >> Word.known([[0, 1, 2]])) ** 4, SAME, 3),
            ((TWO >> C >> TWO >> C) ** 3, SAME, 4), ((S >> C >> S >> C) ** 3, SAME, 4), ((M >> C) ** 2, SAME, 4),
            (B >> A >> ~B, A, 3), (word_of("a (0,1) ~a (1,2) a (0,1,2)"), SAME, 3),
            (word_of("a a (2,1,0) ~a"), word_of("(0,1) a"), 3),
        ]:
            with self.subTest(p=str(p), q=str(q)):
                self.assertEqual(self.check(p, q), size)
                self.assertEqual(self.check(q, p), size)

    def test_wires_for_holes_that_cancel_each_other(self):
        self.assertEqual(list(parting(M >> A, M >> A >> C).wires), ["a", "m"])
        self.assertEqual(list(parting(ONE >> S >> C, ONE >> S).wires), ["o", "s"])
        self.assertEqual(self.check(M >> A, M >> A >> C), 2)
        self.assertEqual(self.check(B >> M >> A, B >> M >> A ** 2), 2)
        self.assertEqual(self.check(B >> M >> A, B >> M >> A ** 3), 4)
        self.assertEqual(self.check(ONE >> S >> Word.known([[0, 7]]), ONE >> S >> Word.known([[0, 7]]) >> A), 8)

    def test_named_places_that_cancel_each_other(self):
        known = Word.known([[3, 7]])
        self.assertEqual(self.check(known >> A, known), 8)
        self.assertEqual(self.check(known >> M, known), 8)
        self.assertEqual(self.check(known >> A ** 60, known), 8)
        self.assertEqual(self.check(known >> C >> A, known >> C), 8)
        self.assertEqual(self.check(Word.known([[0, 1]]) >> A, Word.known([[0, 1, 7]]) >> A), 8)

    def test_the_words_stay_as_they_were(self):
        p, q = M >> A >> C, C >> ~A >> M
        parting(p, q).wires.clear()
        self.assertEqual([str(p), str(q)], ["m a (0,1)", "(0,1) ~a m"])
        self.assertEqual([p.kinds, q.kinds], [{"a": "wire", "m": "mirror"}] * 2)
        self.assertEqual(list(parting(p, q).wires), ["a", "m"])


class ComesTest(unittest.TestCase):
    """Point 14."""

    def test_words_without_holes(self):
        self.assertEqual(comes(SAME, 0), [(0, 1)])
        self.assertEqual(comes(SAME, 8), [(8, 9)])
        self.assertEqual(comes(Word.known([[0, 5, 2]]), 5), [(2, 6)])
        self.assertEqual(comes(Word.known([[0, 5, 2]]), 3), [(3, 6)])

    def test_words_with_holes(self):
        self.assertEqual(comes(A, 0), [(0, 1), (None, 2)])
        self.assertEqual(comes(A, 3), [(3, 4), (None, 4)])
        self.assertEqual(comes(ZERO, 3), [(3, 4)])
        self.assertEqual(comes(M, 0), [(None, 2)])
        self.assertEqual(comes(M >> C, 0), [(0, 2), (None, 4)])
        self.assertEqual(comes(A >> A, 0), [(0, 1), (None, 3)])
        self.assertEqual(comes(A >> Word.known([[1, 4]]), 2), [(1, 5), (2, 5), (4, 5), (None, 5)])
        self.assertEqual(comes(S >> Word.known([[1, 2]]) >> S, 0), [(0, 3), (1, 3), (2, 3), (None, 4)])
        self.assertEqual(comes(C.under(M), 0), [(0, 4), (1, 2)])
        self.assertEqual(comes(M.under(A >> B), 9), [(None, 10)])
        self.assertEqual(comes(C.under(ZERO), 1), [(0, 2)])

    def test_all_fillings_of_small_sizes(self):
        for text, start in itertools.product(TEXTS, (0, 1, 3)):
            word = word_of(text)
            numbers = {*word.named, start}
            found = comes(word, start)
            self.assertEqual([end for end, _ in found if end is not None],
                             sorted({end for end, _ in found} & numbers))
            self.assertLessEqual({end for end, _ in found}, {*numbers, None})
            self.assertNotIn(None, [end for end, _ in found[:-1]])
            for size in small_sizes([word], [start]):
                with self.subTest(text=text, start=start, size=size):
                    ends = {word.filled(size, wires)[start] for wires in fillings(size, word.kinds)}
                    ends = {end if end in numbers else None for end in ends}
                    self.assertEqual({end for end, least in found if least <= size}, ends)

    def test_lists_are_new(self):
        word = A >> C
        comes(word, 0).clear()
        self.assertEqual(comes(word, 0), [(0, 2), (1, 2), (None, 3)])


class LimitsTest(unittest.TestCase):
    def setUp(self):
        self.begin = time.perf_counter()

    def tearDown(self):
        self.assertLess(time.perf_counter() - self.begin, 30)

    def test_six_uses_and_five_places(self):
        known = Word.known([[0, 3, 4], [1, 2]])
        p, q = known >> A >> B >> Word.hole("c"), Word.hole("d") >> Word.hole("e") >> Word.hole("f")
        self.assertEqual(parting(p, q).size, 5)
        self.assertEqual(parting(p >> ~q, known).size, 5)
        self.assertIs(alike_at(p, q, 5), False)
        self.assertEqual(comes(p >> q, 0), [(place, 5) for place in range(5)] + [(None, 6)])
        z = ZERO >> known
        self.assertIs(alike((z >> z.under(A >> B)), known >> known.under(A >> B)), True)
        self.assertIs(alike(ONE.under(A >> B >> known) ** 2, SAME), True)
        word = known >> M.under(A >> B >> known)
        self.assertEqual(comes(word, 0), [(place, 6) for place in range(5) if place != 3] + [(None, 6)])

    def test_words_that_part_late(self):
        known = Word.known([[0, 1], [2, 3]])
        commutator = A >> known >> ~A >> known
        self.assertEqual(parting(commutator ** 3, SAME).size, 4)
        self.assertEqual(parting((A >> B) ** 3, SAME).size, 2)
        self.assertEqual(parting(A >> B >> ~A >> ~B, SAME).size, 3)
        self.assertEqual(parting(A >> A >> B >> B, B >> B >> A >> A).size, 4)

    def test_twelve_uses_of_one_hole_and_three_places(self):
        known = Word.known([[0, 1, 2]])
        self.assertIs(alike((ONE >> known) ** 12, SAME), True)
        self.assertIs(alike((ONE >> known) ** 6, (~known >> ONE) ** 6), True)
        self.assertEqual(parting((ONE >> known) ** 8, SAME).size, 3)
        self.assertEqual(parting(A ** 12, SAME).size, 5)
        self.assertEqual(parting((A >> known >> ~A >> known) ** 6, SAME).size, 5)
        self.assertIs(alike((M >> known) ** 12, SAME), True)
        self.assertEqual(parting((M >> known) ** 9, SAME).size, 6)
        self.assertEqual(comes((A >> known) ** 12, 0)[:3], [(0, 3), (1, 5), (2, 5)])

    def test_large_numbers(self):
        many = Word.hole("s", "swaps", most=10 ** 59)
        self.assertEqual(parting((C >> many) ** 6, SAME).size, parting((C >> S) ** 6, SAME).size)
        self.assertIs(alike_at(many, SAME, 10 ** 59 + 1), False)
        self.assertEqual(parting(Word.known([[0, 59]]) >> A, A >> Word.known([[0, 59]])).size, 60)


class InterfaceTest(unittest.TestCase):
    def test_example(self):
        a = Word.hole("a")
        c = Word.known([[0, 1]])
        m = Word.hole("m", "mirror")
        self.assertEqual([
            alike((c >> c.under(a)) ** 6, Word.same()), parting(a ** 6, Word.same()).size, comes(m.under(a), 0),
        ], [True, 4, [(None, 2)]])


if __name__ == "__main__":
    unittest.main()
