"""Shares: points 18 and 19, and what point 1 says of them."""

import itertools
import time
import unittest
from fractions import Fraction

from tests.helpers import Raising, all_kinds, fillings, fillings_count, fitting, value_of
from turnwires.errors import NoShare, TwoKinds
from turnwires.quotients import Quot
from turnwires.shares import mean, meeting, reach, reach_of, share
from turnwires.words import Word

A, B = Word.hole("a"), Word.hole("b")
S, M, N = Word.hole("s", "swaps"), Word.hole("m", "mirror"), Word.hole("n", "mirror")
ZERO, ONE, TWO, THREE = (Word.hole(name, "swaps", most=most) for most, name in enumerate("zotu"))
C = Word.known([[0, 1]])
SAME = Word.same()
KINDS = {"a": "wire", "b": "wire", "m": "mirror", "n": "mirror", "z": "swaps 0", "o": "swaps 1", "t": "swaps 2",
         "u": "swaps 3", "s": "swaps"}
TEXTS = [
    "()", "(0,1)", "(0,3)(1,2)", "a", "~a", "m", "z", "o", "t", "u", "a a", "~a ~a", "a a a", "a b", "~b a", "a b ~a",
    "a b ~a ~b",
    "a (0,1)", "(0,1) ~a (0,1) a", "a (0,2) a", "(1,2) a a", "~a m a", "a o ~a", "m (0,1) m", "m n", "m n m n", "m o",
    "(0,2) m (0,1) m", "o (0,1) o", "o (0,1,2) o (0,1) o", "t (0,1) t (1,2) t", "o t o t", "t (0,2) o", "u (0,1,2) u",
    "a (0,1) a (0,1) a", "~a (0,1,2) a (0,1) ~a", "a (0,1,2) a (0,1,2) a (0,1,2) a", "m (0,1,2) m (0,1,2) m (0,1,2)",
    "o z a", "a z ~a",
]


def word_of(text):
    return Word.read(text, KINDS)


def tried(words, numbers=(), sizes=range(1, 7)):
    """Return those sizes that fit and have not too many fillings, with all of these."""
    kinds = all_kinds(words)
    return [(size, fillings(size, kinds)) for size in fitting(sizes, words, numbers)
            if fillings_count(size, kinds) <= 3000]


def part(found):
    """Return the part of the cases that are true."""
    return Fraction(sum(found), len(found))


class ShareTest(Raising):
    """Point 18."""

    def test_told_quotients(self):
        for text, start, end, quotient in [
            ("()", 0, 0, "1"), ("()", 0, 1, "0"), ("(0,1)", 0, 1, "1"), ("(0,1)", 0, 0, "0"), ("(0,1)", 5, 5, "1"),
            ("a", 0, 0, "(1)/(n)"), ("a", 0, 1, "(1)/(n)"), ("~a", 7, 3, "(1)/(n)"), ("a b", 0, 1, "(1)/(n)"),
            ("a a", 0, 0, "(2)/(n)"), ("a a", 0, 1, "(n - 2)/(n^2 - n)"), ("m", 0, 0, "0"), ("m", 0, 1, "(1)/(n - 1)"),
            ("z", 4, 4, "1"), ("z", 4, 5, "0"), ("o", 0, 1, "(2)/(n^2 - n + 2)"),
            ("o", 0, 0, "(n^2 - 3*n + 4)/(n^2 - n + 2)"), ("~a m a", 0, 1, "(1)/(n - 1)"),
            ("~a (0,1) a", 0, 0, "(n - 2)/(n)"), ("a a a a", 0, 0, "(3)/(n)"),
        ]:
            with self.subTest(text=text, start=start, end=end):
                self.assertEqual(str(share(word_of(text), start, end)), quotient)

    def test_all_fillings_of_small_sizes(self):
        for text, start, end in itertools.product(TEXTS, (0, 1, 3), (0, 1, 4)):
            word = word_of(text)
            found = share(word, start, end)
            self.assertIsInstance(found, Quot)
            for size, wires in tried([word], [start, end]):
                if size >= reach(word, [start, end]):
                    with self.subTest(text=text, start=start, end=end, size=size):
                        self.assertEqual(value_of(found, size),
                                         part([word.filled(size, filling)[start] == end for filling in wires]))

    def test_the_shares_of_all_ends_are_one(self):
        for text in TEXTS:
            word = word_of(text)
            named = [*word.named, 2]
            new = max(named) + 1
            ends = sorted({*named, new})
            total = sum([share(word, 2, end) for end in ends[:-1]], Quot([]))
            total = total + share(word, 2, new) * (Quot([0, 1]) - (len(ends) - 1))
            with self.subTest(text=text):
                self.assertEqual(total, 1)

    def test_no_share(self):
        r = Word.hole("r", "swaps")
        for word, name in [(S, "s"), (A >> S, "s"), (S >> r >> A, "r"), (r >> S, "r"), (S >> C >> S, "s")]:
            self.raises(NoShare, "name", name, share, word, 0, 1)
            self.raises(NoShare, "name", name, mean, word)
            self.raises(NoShare, "name", name, meeting, word, A, 0)
            self.raises(NoShare, "name", name, meeting, A, word, 0)
        self.assertEqual(share(S >> S, 0, 0), 1)
        self.assertEqual(share(S >> S >> A, 0, 0), share(A, 0, 0))


class MeetingTest(Raising):
    """Point 18."""

    def test_told_quotients(self):
        self.assertEqual(str(meeting(A, B, 0)), "(1)/(n)")
        self.assertEqual(str(meeting(A, ~A, 3)), "(2)/(n)")
        self.assertEqual(meeting(A, A, 3), 1)
        self.assertEqual(meeting(C, SAME, 0), 0)
        self.assertEqual(str(meeting(A >> C, A, 0)), "(n - 2)/(n)")
        self.assertEqual(str(meeting(M, N, 0)), "(1)/(n - 1)")

    def test_all_fillings_of_small_sizes(self):
        for one, other in itertools.product(TEXTS[:20] + TEXTS[-6:],
                                            ["()", "a", "~a a a", "m", "o (0,1)", "(0,2,1) b"]):
            one, other = word_of(one), word_of(other)
            for start in (0, 3):
                found = meeting(one, other, start)
                for size, wires in tried([one, other], [start], range(1, 6)):
                    if size >= reach_of([one, other], [start]):
                        with self.subTest(one=str(one), other=str(other), start=start, size=size):
                            self.assertEqual(value_of(found, size), part([
                                one.filled(size, filling)[start] == other.filled(size, filling)[start]
                                for filling in wires
                            ]))

    def test_two_kinds(self):
        for one, other, name in [
            (A, Word.hole("a", "mirror"), "a"), (TWO, Word.hole("t", "swaps", most=3), "t"),
            (A >> S, Word.hole("a", "swaps") >> S, "a"), (S >> B, Word.hole("s") >> Word.hole("b", "mirror"), "b"),
            (Word.hole("x", "swaps") >> A, Word.hole("x") >> A, "x"),
        ]:
            self.raises(TwoKinds, "name", name, meeting, one, other, 0)

    def test_no_share_for_holes_that_cancel_each_other(self):
        r = Word.hole("r", "swaps")
        self.raises(NoShare, "name", "s", meeting, S, S, 0)
        self.raises(NoShare, "name", "r", meeting, A >> S >> r, B >> S >> r, 0)
        self.raises(NoShare, "name", "r", meeting, S, r, 0)


class MeanTest(unittest.TestCase):
    """Point 18."""

    def test_told_quotients(self):
        for text, quotient in [
            ("()", "n"), ("(0,1)", "n - 2"), ("(0,1,4)", "n - 3"), ("a", "1"), ("a a", "2"), ("a a a a a a", "4"),
            ("m", "0"), ("z", "n"), ("o", "(n^3 - 3*n^2 + 4*n)/(n^2 - n + 2)"), ("~a m a", "0"),
            ("~a (0,1) a", "n - 2"),
            ("a (0,1)", "1"), ("~a ~b a b", "(n)/(n - 1)"),
        ]:
            with self.subTest(text=text):
                self.assertEqual(str(mean(word_of(text))), quotient)

    def test_all_fillings_of_small_sizes(self):
        for text in TEXTS:
            word = word_of(text)
            found = mean(word)
            for size, wires in tried([word]):
                if size >= reach(word):
                    with self.subTest(text=text, size=size):
                        stay = [sum(word.filled(size, filling)[place] == place for place in range(size))
                                for filling in wires]
                        self.assertEqual(value_of(found, size), Fraction(sum(stay), len(stay)))

    def test_words_that_stand_for_one_another(self):
        word = A >> C >> B >> ONE
        for other in [word.under(A), ~word, word.under(B >> C)]:
            self.assertEqual(mean(other), mean(word))


class ReachTest(unittest.TestCase):
    """Point 19."""

    def test_reach(self):
        for text, numbers, size in [
            ("()", [], 1), ("()", [0], 1), ("()", (4,), 5), ("a", [], 1), ("a a a", [], 3), ("a a a", [1], 3),
            ("a a a", [3, 1], 4), ("a b a b ~a", [], 3), ("(0,6)", [], 7), ("(0,6) a", [2], 7), ("(0,6) a", [9], 10),
            ("m (0,1) m (0,1) m (0,1)", [], 3), ("m", (0, 2), 3), ("a ~b a", [], 2), ("a a (0,1) ~a ~b ~b", [0], 3),
        ]:
            with self.subTest(text=text, numbers=numbers):
                self.assertEqual(reach(word_of(text), numbers), size)
                self.assertEqual(reach_of([word_of(text)], numbers), size)
        self.assertEqual(reach(A), 1)
        self.assertEqual(reach(A >> ~A), 1)
        self.assertEqual(reach(C >> A >> ~A >> C >> B), 1)

    def test_several_words(self):
        self.assertEqual(reach_of([]), 1)
        self.assertEqual(reach_of([], [7]), 8)
        self.assertEqual(reach_of([A, A]), 2)
        self.assertEqual(reach_of([A, ~A]), 2)
        self.assertEqual(reach_of([A >> A, B, B >> A]), 3)
        self.assertEqual(reach_of([A >> C, Word.known([[2, 5]])], (1, 3)), 6)
        self.assertEqual(reach_of([A ** 4, B ** 3 >> A], [0]), 5)

    def test_quotients_hold_from_there_on(self):
        word = A ** 3
        self.assertEqual(reach(word, [0]), 3)
        self.assertEqual([value_of(share(word, 0, 0), size) for size in (3, 4, 5)],
                         [Fraction(2, 3), Fraction(2, 4), Fraction(2, 5)])


class UnchangedTest(unittest.TestCase):
    """Point 1."""

    def test_arguments_stay_as_they_were(self):
        word, numbers, words = A >> C >> M >> ONE, [4, 0], [A, A]
        share(word, 0, 1)
        mean(word)
        meeting(word, ~word, 2)
        reach(word, numbers)
        reach_of(words, numbers)
        self.assertEqual([str(word), numbers, words], ["a (0,1) m o", [4, 0], [A, A]])
        self.assertEqual(word.kinds, {"a": "wire", "m": "mirror", "o": "swaps 1"})


class LimitsTest(unittest.TestCase):
    def setUp(self):
        self.begin = time.perf_counter()

    def tearDown(self):
        self.assertLess(time.perf_counter() - self.begin, 30)

    def test_six_uses_and_five_places(self):
        kinds = {**KINDS, **{name: "wire" for name in "cdef"}}
        knowns = ["(0,1,2)", "(1,2,3)", "(2,3,4)", "(0,4)", "(1,3)", "(0,2)"]
        for names in ["abcdef", "ababab", "aabbaa", "abcabc", "tutuzo", "mnmnab", "uuuttt", "tatbma"]:
            text = " ".join(known + " " + name for known, name in zip(knowns, names))
            word = Word.read(text, kinds)
            self.assertEqual([len(word), word.named], [6, [0, 1, 2, 3, 4]])
            ends = sum([share(word, 0, end) for end in range(5)], Quot([]))
            with self.subTest(names=names):
                self.assertEqual(ends + share(word, 0, 5) * Quot([-5, 1]), 1)
                self.assertEqual(meeting(word, SAME, 3), share(word, 3, 3))
                stay = sum([share(word, place, place) for place in range(5)], Quot([]))
                self.assertEqual(mean(word), stay + share(word, 5, 5) * Quot([-5, 1]))

    def test_twelve_uses_of_one_hole_and_three_places(self):
        known, other = Word.known([[0, 1, 2]]), Word.known([[0, 1]])
        for hole in (A, M, ONE, TWO, THREE):
            word = (hole >> known >> hole >> other) ** 6
            self.assertEqual(len(word), 12)
            with self.subTest(hole=str(hole)):
                stay = sum([share(word, place, place) for place in range(3)], Quot([]))
                self.assertEqual(mean(word), stay + share(word, 3, 3) * Quot([-3, 1]))
        self.assertEqual(str(share((A >> known) ** 12, 0, 1)), "(n - 6)/(n^2 - n)")
        self.assertEqual(mean((A >> known) ** 12), 6)
        self.assertEqual(str(mean((A >> known >> ~A >> other) ** 6)), "(n^3 - n^2 - 24*n + 72)/(n^2 - n)")

    def test_powers(self):
        # A power of a wire, alike for all wires, has as many staying places as the exponent has divisors.
        for power in (12, 24, 60, -60):
            self.assertEqual(mean(A ** power), sum(power % k == 0 for k in range(1, 61)))

    def test_places_up_to_60(self):
        word = Word.known([[58, 59]]) >> A
        self.assertEqual(str(share(word, 59, 17)), "(1)/(n)")
        self.assertEqual(reach(word, [60]), 61)
        self.assertEqual(mean(Word.known([list(range(60))])), Quot([-60, 1]))


class InterfaceTest(unittest.TestCase):
    def test_example(self):
        a = Word.hole("a")
        b = Word.hole("b")
        self.assertEqual([str(share(a, 0, 1)), str(mean(a ** 4)), str(mean(~a >> ~b >> a >> b))],
                         ['(1)/(n)', '3', '(n)/(n - 1)'])


if __name__ == "__main__":
    unittest.main()
