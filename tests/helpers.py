"""What several files of tests need: fillings of small sizes, and checks of errors."""

import itertools
import math
import unittest
from fractions import Fraction

from turnwires.wires import Wire


def wires_of_size(size):
    return [Wire.read(text) for text in texts_of_size(size)]


def texts_of_size(size):
    for images in itertools.permutations(range(size)):
        rings, seen = "", set()
        for place in range(size):
            ring = []
            while place not in seen:
                seen.add(place)
                ring.append(place)
                place = images[place]
            if len(ring) > 1:
                rings += "(" + ",".join(map(str, ring)) + ")"
        yield f"{size} {rings or '()'}"


def wires_of_kind(size, kind):
    """Return all wires of this size and kind, the kind told as in the kinds of a word."""
    wires = wires_of_size(size)
    if kind != "wire":
        wires = [wire for wire in wires if wire >> wire == Wire(size, [])]
    if kind == "mirror":
        wires = [wire for wire in wires if all(wire[place] != place for place in range(size))]
    if kind.startswith("swaps "):
        wires = [wire for wire in wires if len(wire.rings()) <= int(kind.split()[1])]
    return wires


def fillings(size, kinds):
    """Return all fillings of this size of holes of these kinds."""
    rows = [wires_of_kind(size, kind) for kind in kinds.values()]
    return [dict(zip(kinds, row)) for row in itertools.product(*rows)]


def fitting(sizes, words, numbers=()):
    """Return those of the sizes that fit the words and the numbers (point 10)."""
    places = [*numbers, *(place for word in words for place in word.named)]
    mirrors = any("mirror" in word.kinds.values() for word in words)
    return [size for size in sizes if size > max(places, default=0) and not (mirrors and size % 2)]


class Raising(unittest.TestCase):
    def raises(self, error, attribute, value, call, *arguments, **more):
        with self.assertRaises(error) as caught:
            call(*arguments, **more)
        self.assertIs(caught.exception.__class__, error)
        if attribute:
            self.assertEqual(getattr(caught.exception, attribute), value)


def value_of(quotient, size):
    """Return the value of a quotient at a size, as a fraction."""
    return Fraction(*quotient.at(size))


def all_kinds(words):
    """Return the kinds of the holes of all words, in the order of the names."""
    kinds = {}
    for word in words:
        kinds.update(word.kinds)
    return {name: kinds[name] for name in sorted(kinds)}


def fillings_count(size, kinds):
    """Return how many fillings `fillings` would return, or more."""
    return math.factorial(size) ** len(kinds)
