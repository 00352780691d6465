"""Quotients: points 15 to 17, and what point 1 says of them."""

import itertools
import math
import random
import time
import unittest
from fractions import Fraction

from tests.helpers import Raising
from turnwires.errors import NoQuot, NoText, NoValue
from turnwires.quotients import Quot

N = Quot([0, 1])
ZERO, HALF, THIRD = Quot([]), Quot([1], [2]), Quot([-1], [3])
HUGE = 10 ** 60 - 1


def some_quotients():
    """Return quotients of small polynomials, told in more than one form each."""
    rows = [[], [1], [-2], [6], [0, 1], [-1, 1], [2, 2], [0, -3], [1, 0, 1], [-1, 0, 1], [6, 5, 1], [4, 0, -4],
            [0, 0, 2, 0]]
    return [Quot(top, bottom) for top in rows for bottom in rows[1:]]


QUOTIENTS = some_quotients()


def value(row, n):
    return sum(factor * n ** power for power, factor in enumerate(row))


def times(one, other):
    row = [0] * (len(one) + len(other))
    for (at, left), (by, right) in itertools.product(enumerate(one), enumerate(other)):
        row[at + by] += left * right
    return trim(row)


def trim(row):
    row = list(row)
    while row and not row[-1]:
        row.pop()
    return row


def have_common_divisor(one, other):
    """Tell if a polynomial that is no constant divides both, by dividing with fractions."""
    one, other = [trim(map(Fraction, row)) for row in (one, other)]
    while other:
        while len(one) >= len(other):
            factor = one[-1] / other[-1]
            shifted = [0] * (len(one) - len(other)) + other
            one = trim([left - factor * right for left, right in zip(one, shifted)])
        one, other = other, one
    return len(one) > 1


class QuotTest(Raising):
    def check_form(self, quot):
        self.assertIs(type(quot), Quot)
        self.assertIs(type(quot.top), tuple)
        self.assertIs(type(quot.bottom), tuple)
        self.assertTrue(all(type(factor) is int for factor in quot.top + quot.bottom))
        if not quot.top:
            self.assertEqual(quot.bottom, (1,))
            return
        self.assertNotEqual(quot.top[-1], 0)
        self.assertGreater(quot.bottom[-1], 0)
        self.assertEqual(math.gcd(*quot.top, *quot.bottom), 1)
        self.assertFalse(have_common_divisor(quot.top, quot.bottom))


class FormTest(QuotTest):
    """Point 15."""

    def check(self, top, bottom):
        quot = Quot(top, bottom)
        self.check_form(quot)
        self.assertEqual(times(quot.top, bottom), times(quot.bottom, top))

    def test_one_form(self):
        for top, bottom, expected in [
            ([], [1], ((), (1,))), ([0, 0], (5, 1), ((), (1,))), ([0], [-3, 0], ((), (1,))),
            ((), [0, 0, 7], ((), (1,))),
            ([1], [1], ((1,), (1,))), ([4], [6], ((2,), (3,))), ([4], [-6], ((-2,), (3,))), ([-4], (-2,), ((2,), (1,))),
            ([0, 1], [0, 1], ((1,), (1,))), ([0, 2], [0, 0, 4], ((1,), (0, 2))), ([-1, 0, 1], [1, 1], ((-1, 1), (1,))),
            ([1, 1], [-1, 0, 1], ((1,), (-1, 1))), ([1, -1], [-1, 1], ((-1,), (1,))), ([1], [1, -1], ((-1,), (-1, 1))),
            ([2, 4], [6], ((1, 2), (3,))), ([2, 4], [3], ((2, 4), (3,))), ([3], [6, 9, 0, 0], ((1,), (2, 3))),
            ([6, 5, 1], [3, 4, 1], ((2, 1), (1, 1))), ([2, 4], [3, 6], ((2,), (3,))),
            ([0, 2], [4, 6], ((0, 1), (2, 3))),
            ([1, 0, 0], [1, 0], ((1,), (1,))), ([1, 2, 1], [1, 3, 3, 1], ((1,), (1, 1))),
            ([-6, 1, 1], [4, 4, 1], ((-6, 1, 1), (4, 4, 1))), ([0, -1], [0, 0, -1], ((1,), (0, 1))),
        ]:
            with self.subTest(top=top, bottom=bottom):
                quot = Quot(top, bottom)
                self.assertEqual((quot.top, quot.bottom), expected)

    def test_the_lower_polynomial_is_1_if_it_is_left_out(self):
        self.assertEqual((Quot([3, 0, 1, 0]).top, Quot((3, 0, 1)).bottom), ((3, 0, 1), (1,)))
        self.assertEqual((Quot([]).top, Quot([0]).bottom), ((), (1,)))

    def test_many_products(self):
        for quot in QUOTIENTS:
            self.check_form(quot)
        chance = random.Random(15)
        for most in (1, 3, 10, 10 ** 20, 10 ** 60):
            for _ in range(60):
                lengths = [chance.randint(1, 5) for _ in range(3)]
                one, other, both = [[chance.randint(-most, most) for _ in range(length)] for length in lengths]
                if any(other) and any(both):
                    self.check(times(one, both), times(other, both))
                    self.check(one + [0], other + [0, 0])

    def test_divisors_that_show_in_no_values_alone(self):
        # n^2 + n is even everywhere, and n (n + 1) (n + 2) a multiple of 6, but no polynomial divides both.
        self.check([0, 1, 1], [2])
        self.check([0, 2, 3, 1], [0, 0, 0, 6, 6])
        self.check([2, 1, 1], [4, 1, 1])
        self.check(times([1, 1], [2, 1, 1]), times([1, 1], [4, 1, 1]))
        self.check([720, 0, 1], [720 * 2, 0, 1])
        self.check(times([10 ** 9, 10 ** 9 + 1], [1, 7]), times([10 ** 9, 10 ** 9 + 1], [1, 7, 1]))
        for root in (*range(2, 60), 2 ** 40, 10 ** 60):
            self.check(times([-root, 1], [1, 1]), times([-root, 1], [2, 1]))
            self.check([-root, 1], [-root, 1])
        for power in range(1, 14):
            self.check([-1] + [0] * 12 + [1], [-1] + [0] * (power - 1) + [1])

    def test_no_quot(self):
        for top in ([], [1], [0, 1]):
            for bottom in ([], (), [0], (0, 0, 0)):
                self.raises(NoQuot, None, None, Quot, top, bottom)

    def test_lists_that_are_passed_stay_as_they_were_and_may_change_later(self):
        top, bottom = [2, 2, 0], [-4, 0, 4, 0]
        quot = Quot(top, bottom)
        self.assertEqual((top, bottom), ([2, 2, 0], [-4, 0, 4, 0]))
        top[0] = bottom[0] = 9
        bottom.append(1)
        self.assertEqual((quot.top, quot.bottom), ((1,), (-2, 2)))


class ArithmeticTest(QuotTest):
    """Point 16."""

    def values(self, quot):
        """Return the values at some integers, None where there is none."""
        found = []
        for n in range(-3, 9):
            try:
                found.append(Fraction(*quot.at(n)))
            except NoValue:
                found.append(None)
        return found

    def check(self, found, one, other, action):
        """Check a result by its values, as many as make certain which polynomials it has."""
        self.check_form(found)
        for left, right, both in zip(self.values(one), self.values(other), self.values(found)):
            if left is not None and right is not None:
                self.assertEqual(both, action(left, right))

    def test_sums_differences_and_products(self):
        for one, other in itertools.product(QUOTIENTS[::5], QUOTIENTS[::7]):
            self.check(one + other, one, other, lambda left, right: left + right)
            self.check(one - other, one, other, lambda left, right: left - right)
            self.check(one * other, one, other, lambda left, right: left * right)

    def test_integers_on_either_side(self):
        for quot, number in itertools.product(QUOTIENTS[::5], [0, 1, -1, 2, -6, HUGE]):
            constant = Quot([number])
            self.check(quot + number, quot, constant, lambda left, right: left + right)
            self.check(number + quot, quot, constant, lambda left, right: left + right)
            self.check(quot - number, quot, constant, lambda left, right: left - right)
            self.check(number - quot, quot, constant, lambda left, right: right - left)
            self.check(quot * number, quot, constant, lambda left, right: left * right)
            self.check(number * quot, quot, constant, lambda left, right: left * right)

    def test_the_opposite(self):
        for quot in QUOTIENTS:
            self.check(-quot, quot, quot, lambda left, right: -right)
            self.assertEqual(-quot + quot, 0)
            self.assertEqual(-(-quot), quot)

    def test_over(self):
        for one, other in itertools.product(QUOTIENTS[::5], QUOTIENTS[::7]):
            if other != 0:
                found = one.over(other)
                self.check_form(found)
                self.assertEqual(found * other, one)
        for quot in QUOTIENTS:
            self.assertEqual(quot.over(-3), quot * THIRD)
            self.assertEqual(quot.over(HUGE) * HUGE, quot)
        self.assertEqual((N.over(-2).top, N.over(-2).bottom), ((0, -1), (2,)))
        self.assertEqual((N.over(-N * N).top, N.over(-N * N).bottom), ((-1,), (0, 1)))

    def test_over_nothing(self):
        for quot in (ZERO, HALF, N, Quot([1], [0, 1])):
            for other in (0, ZERO, N - N):
                with self.assertRaises(ZeroDivisionError):
                    quot.over(other)

    def test_one_form_of_results(self):
        self.assertEqual(((HALF + HALF).top, (HALF + HALF).bottom), ((1,), (1,)))
        self.assertEqual(((HALF - HALF).top, (HALF - HALF).bottom), ((), (1,)))
        found = Quot([1], [-1, 1]) - Quot([1], [1, 1])
        self.assertEqual((found.top, found.bottom), ((2,), (-1, 0, 1)))
        found = Quot([1], [0, 1]) * Quot([0, 1], [6]) * 3
        self.assertEqual((found.top, found.bottom), ((1,), (2,)))

    def test_quotients_stay_as_they_were(self):
        one, other = Quot([1, 2], [3, 4]), Quot([5, 6], [7, 8])
        _ = one + other, one - other, one * other, -one, one.over(other), one.at(3), one + 1, 1 - one, one == other
        one += 1
        self.assertEqual((other.top, other.bottom), ((5, 6), (7, 8)))
        self.assertEqual((one.top, one.bottom), ((4, 6), (3, 4)))

    def test_equal(self):
        for number, (one, other) in enumerate(itertools.product(QUOTIENTS, QUOTIENTS[::11])):
            same = times(one.top, other.bottom) == times(other.top, one.bottom)
            self.assertIs(one == other, same)
            self.assertIs(one != other, not same)
        self.assertIs(Quot([2, 2], [4]) == Quot([-1, -1], [-2]), True)

    def test_equal_to_integers(self):
        for number in (0, 1, -7, HUGE):
            self.assertIs(Quot([number]) == number, True)
            self.assertIs(number == Quot([number, 0]), True)
            self.assertIs(Quot([number]) != number, False)
            self.assertIs(number != Quot([number]), False)
            self.assertIs(Quot([number]) == number + 1, False)
            self.assertIs(number + 1 != Quot([number]), True)
        for quot in (N, HALF, Quot([1], [0, 1]), Quot([0, 1], [2])):
            for number in (0, 1, 2):
                self.assertIs(quot == number, False)
                self.assertIs(number != quot, True)

    def test_equal_to_nothing_else(self):
        for other in ("1", None, 1.0, True, (1,), [1], ((1,), (1,)), Fraction(1), b"1"):
            self.assertIs(Quot([1]) == other, False)
            self.assertIs(Quot([1]) != other, True)
            self.assertIs(other == Quot([1]), False)
        self.assertIs(ZERO == False, False)  # noqa: E712
        self.assertIs(ZERO == (), False)

    def test_at(self):
        quot = Quot([0, 1], [-1, 1])
        self.assertEqual([quot.at(5), quot.at(0), quot.at(-1), quot.at(2)], [(5, 4), (0, 1), (1, 2), (2, 1)])
        self.assertEqual(Quot([4, 2], [0, 6]).at(4), (1, 2))
        self.assertEqual(Quot([1], [-3, 0, 0, 1]).at(1), (-1, 2))
        self.assertEqual(Quot([-2], [-5, 1]).at(3), (1, 1))
        self.assertEqual([ZERO.at(0), ZERO.at(-9), HALF.at(7), Quot([-4]).at(0)], [(0, 1), (0, 1), (1, 2), (-4, 1)])
        for quot in QUOTIENTS:
            for n in (-3, 0, 1, 5, HUGE, -HUGE):
                if value(quot.bottom, n):
                    top, bottom = quot.at(n)
                    self.assertIs(type(quot.at(n)), tuple)
                    self.assertEqual(math.gcd(top, bottom), 1)
                    self.assertGreater(bottom, 0)
                    self.assertEqual(top * value(quot.bottom, n), bottom * value(quot.top, n))

    def test_no_value(self):
        self.raises(NoValue, "n", 1, Quot([0, 1], [-1, 1]).at, 1)
        self.raises(NoValue, "n", -4, Quot([1], [8, 6, 1]).at, -4)
        self.raises(NoValue, "n", 0, Quot([1], [0, 0, 3]).at, 0)
        self.raises(NoValue, "n", HUGE, Quot([2], [-HUGE, 1]).at, HUGE)

    def test_values_of_the_one_form(self):
        self.assertEqual(Quot([-1, 0, 1], [-1, 1]).at(1), (2, 1))
        self.assertEqual(Quot([0, 5], [0, 3]).at(0), (5, 3))
        self.assertEqual((N.over(N - 1) * (N - 1)).at(1), (1, 1))


TEXTS = [
    ([], [1], "0"), ([1], [1], "1"), ([-1], [1], "-1"), ([0, 1], [1], "n"), ([0, -1], [1], "-n"), ([0, 2], [1], "2*n"),
    ([0, -2], [1], "-2*n"), ([0, 0, 1], [1], "n^2"), ([0, 0, -1], [1], "-n^2"), ([3, 0, -10], [1], "-10*n^2 + 3"),
    ([-1, 1], [1], "n - 1"), ([1, -1], [1], "-n + 1"), ([-1, -1], [1], "-n - 1"), ([1, 1, 1], [1], "n^2 + n + 1"),
    ([-3, 0, 1, -2], [1], "-2*n^3 + n^2 - 3"), ([0, -1, 0, 0, 1], [1], "n^4 - n"), ([12, 11], [1], "11*n + 12"),
    ([1], [2], "(1)/(2)"), ([-1], [2], "(-1)/(2)"), ([1], [0, 1], "(1)/(n)"), ([-1], [0, 0, 2], "(-1)/(2*n^2)"),
    ([0, 1], [-1, 1], "(n)/(n - 1)"), ([1, -1], [0, -1, 1], "(-1)/(n)"), ([2, 0, 1], [0, 3], "(n^2 + 2)/(3*n)"),
    ([1, 2], [2], "(2*n + 1)/(2)"), ([-2, 1], [2, -4, 3], "(n - 2)/(3*n^2 - 4*n + 2)"), ([0, 1], [-2], "(-n)/(2)"),
    ([10 ** 59], [1], "1" + "0" * 59), ([0] * 40 + [1], [0, 0, 1], "n^38"), ([1], [0] * 40 + [1], "(1)/(n^40)"),
    ([7] + [0] * 39 + [-HUGE], [1], "-" + "9" * 60 + "*n^40 + 7"), ([0] * 10 + [1, 1], [1], "n^11 + n^10"),
]

WRONG = [
    "", " ", "-", "+", "*", "^", "/", "()", "(", ")", ")/(", "()/()", "(1)/()", "()/(1)", "2/4", "(2)/(4)", "1/2",
    "(1)/2", "1/(2)", "(1)", "(n)", "(1)/(1)", "(n)/(1)", "(0)/(1)", "(0)/(2)", "(1)/(0)", "(n)/(0)", "(0)/(0)",
    "n + 0", "0 + n", "0*n", "1*n", "-1*n", "n^1", "n^0", "2*n^1", "2*n^0", "n^02", "02*n", "02", "00", "-0", "+1",
    "+n", "1 + n", "n + n", "n^2 + n^3", "n - n", "2*n + n", "1 + 1", "n + -1", "n - -1", "n--1", "--n", "- n",
    "n -1", "n- 1", "n-1", "n+1", " n", "n ", "n  + 1", "n +  1", "\nn", "n\n", "n + ", " + n", "n + 1 ", "2n",
    "n2", "n*2", "2 * n", "2*", "*n", "n*", "n^", "^2", "n^-1", "n^+2", "n^n", "nn", "n n", "n**2", "n^2^2",
    "2*3*n", "2*2", "2^2", "(2*n)/(2)", "(2*n)/(4)", "(n)/(n)", "(n)/(n^2)", "(n^2 - 1)/(n - 1)", "(n)/(-2)",
    "(n)/(-n + 1)", "(-1)/(-n)", "(1)/(n))", "((1)/(n)", "((1))/(n)", "(1) / (n)", "(1)/(n) ", "(1)//(n)",
    "(1)/(n)/(n)", "(1)/(n)/(2)", "(1)(n)", "(1)\\(n)", "1)/(n", "(1)/(n", "1)/(n)", "x", "N", "m + 1", "n^x",
    "0x1", "1_0", "1e3", "1.0", "1.5*n", "0.5", "None", "inf", "3*x", "(1)/(x)", "n^2 + 1 - 0", "9" * 5000 + "x",
    "n^" + "9" * 5000 + " + 0", "(2)/(" + "4" * 5000 + "x)", "(2)/(" + "4" * 5000 + ")", "n^1000000000000 + 0*n",
]


class TextTest(QuotTest):
    """Point 17."""

    def test_texts(self):
        for top, bottom, text in TEXTS:
            with self.subTest(text=text):
                self.assertEqual(str(Quot(top, bottom)), text)

    def test_read(self):
        for top, bottom, text in TEXTS:
            with self.subTest(text=text):
                found = Quot.read(text)
                self.check_form(found)
                self.assertEqual(found, Quot(top, bottom))
        for quot in QUOTIENTS:
            self.assertEqual(Quot.read(str(quot)), quot)

    def test_no_text(self):
        for text in WRONG:
            with self.subTest(text=text[:70]):
                self.raises(NoText, "text", text, Quot.read, text)

    def test_no_text_for_changed_texts(self):
        texts = {text for _, _, text in TEXTS if len(text) < 20}
        for text in sorted(texts):
            for at, sign in itertools.product(range(len(text) + 1), "0n-+ ()^*/1"):
                before, after = text[:at], text[at + 1:]
                for changed in (before + sign + text[at:], before + sign + after, before + after):
                    try:
                        found = Quot.read(changed)
                    except NoText as error:
                        self.assertEqual(error.text, changed)
                    else:
                        self.assertEqual(str(found), changed)


class LimitsTest(QuotTest):
    def setUp(self):
        self.begin = time.perf_counter()

    def tearDown(self):
        self.assertLess(time.perf_counter() - self.begin, 30)

    def test_fourteen_coefficients_of_sixty_digits(self):
        chance = random.Random(16)
        for _ in range(5):
            rows = [[chance.randint(-HUGE, HUGE) for _ in range(14)] for _ in range(4)]
            one, other = Quot(rows[0], rows[1]), Quot(rows[2], rows[3])
            self.assertEqual((one + other) - other, one)
            self.assertEqual((one * other).over(other), one)
            self.assertEqual((one - one).bottom, (1,))
            self.assertEqual(len((one * other).top), 27)
            self.assertEqual(Quot.read(str(one.over(other))), one.over(other))
            self.assertEqual(Fraction(*(one * other).at(-HUGE)), Fraction(*one.at(-HUGE)) * Fraction(*other.at(-HUGE)))

    def test_common_divisors_of_great_coefficients(self):
        chance = random.Random(17)
        for many in range(1, 13):
            both = [chance.randint(-HUGE, HUGE) for _ in range(many)]
            one = [chance.randint(-9, 9) for _ in range(14 - many)] + [5]
            other = [chance.randint(-9, 9) for _ in range(14 - many)] + [7]
            quot = Quot(times(one, both), times(other, both))
            self.assertEqual(quot, Quot(one, other))
            self.check_form(quot)

    def test_sums_of_many_quotients(self):
        total = ZERO
        for number in range(40):
            total = total + Quot([1], [number, 1])
        self.assertEqual(len(total.bottom), 41)
        for number in range(40):
            total = total - Quot([1], [number, 1])
        self.assertEqual((total.top, total.bottom), ((), (1,)))


class InterfaceTest(unittest.TestCase):
    def test_example(self):
        q = Quot([0, 1], [-1, 1])
        self.assertEqual([str(q), q.at(5), str(q - 1), q.over(q) == 1], ['(n)/(n - 1)', (5, 4), '(1)/(n - 1)', True])


if __name__ == "__main__":
    unittest.main()
