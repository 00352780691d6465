"""Quotients: one polynomial in the size over another one, with integer coefficients.

Here a polynomial is a row of its coefficients, the constant first; unless something else
is told, its last coefficient is not 0, so that the polynomial 0 is the empty row.
"""

from itertools import zip_longest
from math import gcd

from turnwires.errors import NoQuot, NoText, NoValue
from turnwires.wires import is_number

# Longer coefficients are turned into no integers, nor integers into such texts, by Python
# itself. A polynomial with longer powers is too long a row to be made.
MOST_DIGITS = 4300
MOST_DIGITS_OF_POWERS = 6


class Quot:
    """A quotient of two polynomials in the size, in its one form."""

    def __init__(self, top, bottom=(1,)):
        top, bottom = trimmed(top), trimmed(bottom)
        if not bottom:
            raise NoQuot()
        divisor = common(top, bottom)
        top, bottom = divided(top, divisor), divided(bottom, divisor)
        number = gcd(content(top), content(bottom))
        if bottom[-1] < 0:
            number = -number
        self.top = tuple([factor // number for factor in top])
        self.bottom = tuple([factor // number for factor in bottom])

    @staticmethod
    def read(text):
        """Return the quotient whose `str` is the text."""
        top, bottom = text, "1"
        if text.startswith("("):
            top, _, bottom = text.removeprefix("(").removesuffix(")").partition(")/(")
        top, bottom = polynomial_in(top), polynomial_in(bottom)
        if top is None or not bottom:
            raise NoText(text)
        found = Quot(top, bottom)
        if str(found) != text:
            raise NoText(text)
        return found

    def over(self, other):
        """Return this quotient divided by another one or by an integer."""
        other = quot_of(other)
        if not other.top:
            raise ZeroDivisionError("a quotient is not divided by 0")
        return Quot(multiplied(self.top, other.bottom), multiplied(self.bottom, other.top))

    def at(self, n):
        """Return the value at the integer n, in lowest terms, as (top, bottom)."""
        top, bottom = value_at(self.top, n), value_at(self.bottom, n)
        if bottom == 0:
            raise NoValue(n)
        number = gcd(top, bottom)
        if bottom < 0:
            number = -number
        return top // number, bottom // number

    def __add__(self, other):
        other = quot_of(other)
        top = added(multiplied(self.top, other.bottom), multiplied(other.top, self.bottom))
        return Quot(top, multiplied(self.bottom, other.bottom))

    def __radd__(self, other):
        return self + other

    def __sub__(self, other):
        return self + -quot_of(other)

    def __rsub__(self, other):
        return -self + other

    def __mul__(self, other):
        other = quot_of(other)
        return Quot(multiplied(self.top, other.top), multiplied(self.bottom, other.bottom))

    def __rmul__(self, other):
        return self * other

    def __neg__(self):
        return Quot([-factor for factor in self.top], self.bottom)

    def __eq__(self, other):
        if isinstance(other, Quot):
            return self.top == other.top and self.bottom == other.bottom
        return isinstance(other, int) and not isinstance(other, bool) and self == Quot([other])

    def __str__(self):
        if self.bottom == (1,):
            return f"{polynomial_text(self.top)}"
        return f"({polynomial_text(self.top)})/({polynomial_text(self.bottom)})"


def quot_of(number):
    """Return the quotient itself, or the constant quotient that an integer stands for."""
    return number if isinstance(number, Quot) else Quot([number])


def trimmed(row):
    """Return the polynomial of these coefficients, of which the last ones may be 0."""
    many = len(row)
    while many and row[many - 1] == 0:
        many -= 1
    return list(row[:many])


def added(one, other):
    """Return the sum of two polynomials."""
    return trimmed([left + right for left, right in zip_longest(one, other, fillvalue=0)])


def multiplied(one, other):
    """Return the product of two polynomials."""
    row = [0] * (len(one) + len(other))
    for at, left in enumerate(one):
        for by, right in enumerate(other):
            row[at + by] = row[at + by] + left * right
    return trimmed(row)


def content(row):
    """Return the greatest integer that divides all coefficients, 0 for the polynomial 0."""
    number = 0
    for factor in row:
        number = gcd(number, factor)
    return number


def primitive(row):
    """Return the polynomial divided by its content."""
    number = content(row)
    return [factor // number for factor in row]


def common(one, other):
    """Return the greatest common divisor, of the content 1, of two polynomials, the other not 0."""
    one, other = primitive(one), primitive(other)
    if not one:
        return other
    if len(one) == 1 or len(other) == 1:
        return [1]
    # Its value at n divides both values there. So the greatest common divisor of these is
    # taken, and its digits to the base n, which are the coefficients of a number c times a
    # polynomial d of the content 1. If d divides both, it is the one: else that is d * h
    # where h(n) divides c. But c is at most n / 2, and the roots of h, being roots of both,
    # are less than n / 2, so that h(n) is greater. With a greater n, d is the one at last,
    # since c divides a number that does not depend on n.
    n = 2 * min(greatest(one), greatest(other)) + 2
    while True:
        divisor = primitive(digits_of(gcd(value_at(one, n), value_at(other, n)), n))
        if divides(divisor, one) and divides(divisor, other):
            return divisor
        n = n * n


def greatest(row):
    """Return the greatest absolute value of the coefficients."""
    return max([abs(factor) for factor in row])


def digits_of(number, n):
    """Return the polynomial with this value above 0 at n and coefficients from -n / 2 to n / 2."""
    row = []
    while number:
        digit = number % n
        if 2 * digit > n:
            digit = digit - n
        row.append(digit)
        number = (number - digit) // n
    return row


def divides(divisor, row):
    """Tell if the polynomial, of the content 1, divides the other one."""
    return multiplied(divided(row, divisor), divisor) == row


def divided(row, divisor):
    """Return the polynomial divided by one that divides it and has the content 1."""
    left = list(row)
    found = []
    for at in range(len(row) - len(divisor), -1, -1):
        factor = left[at + len(divisor) - 1] // divisor[-1]
        for by, less in enumerate(divisor):
            left[at + by] = left[at + by] - factor * less
        found.append(factor)
    return found[::-1]


def value_at(row, n):
    """Return the value of the polynomial at n."""
    value = 0
    for factor in row[::-1]:
        value = value * n + factor
    return value


def polynomial_text(row):
    """Return the text of a polynomial."""
    terms = [term_text(factor, power) for power, factor in enumerate(row) if factor][::-1]
    text = " + ".join(terms).replace("+ -", "- ")
    return text or "0"


def term_text(factor, power):
    """Return the text of a term whose coefficient is not 0."""
    if power == 0:
        return str(factor)
    sign = "-" if factor < 0 else ""
    number = "" if abs(factor) == 1 else f"{abs(factor)}*"
    return f"{sign}{number}n" if power == 1 else f"{sign}{number}n^{power}"


def polynomial_in(text):
    """Return the polynomial that a text tells, or None; the text may tell it in another way."""
    terms = [term_in(term) for term in text.replace(" - ", " + -").split(" + ")]
    if None in terms:
        return None
    row = [0] * (max([power for _, power in terms]) + 1)
    for factor, power in terms:
        row[power] = factor
    return trimmed(row)


def term_in(text):
    """Return the coefficient and the power of the term that a text tells, or None."""
    number, variable, power = text.removeprefix("-").partition("n")
    number = number.removesuffix("*") or "1"
    power = power.removeprefix("^") or str(len(variable))
    if not is_number(number) or not is_number(power):
        return None
    if len(number) > MOST_DIGITS or len(power) > MOST_DIGITS_OF_POWERS:
        return None
    return (-int(number) if text.startswith("-") else int(number)), int(power)
