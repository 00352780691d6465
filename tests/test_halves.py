"""Halves: point 26, and what point 1 says of it."""

import time
import unittest

from tests.helpers import Raising, wires_of_kind, wires_of_size
from turnwires.errors import NoHalves, NoKind
from turnwires.halves import halves, many_halves
from turnwires.wires import Wire


def texts(pairs):
    return [(str(x), str(y)) for x, y in pairs]


class HalvesTest(Raising):
    """Point 26."""

    def test_swaps(self):
        self.assertEqual(texts(halves(Wire(1, []), "swaps")), [("1 ()", "1 ()")])
        self.assertEqual(texts(halves(Wire(2, [[0, 1]]), "swaps")), [("2 ()", "2 (0,1)"), ("2 (0,1)", "2 ()")])
        self.assertEqual(texts(halves(Wire(3, [[0, 1, 2]]), "swaps")),
                         [("3 (1,2)", "3 (0,1)"), ("3 (0,1)", "3 (0,2)"), ("3 (0,2)", "3 (1,2)")])

    def test_mirrors(self):
        self.assertEqual(texts(halves(Wire(2, []), "mirror")), [("2 (0,1)", "2 (0,1)")])
        self.assertEqual(texts(halves(Wire(6, [[0, 1, 2], [3, 4, 5]]), "mirror")), [
            ("6 (0,3)(1,5)(2,4)", "6 (0,4)(1,3)(2,5)"), ("6 (0,4)(1,3)(2,5)", "6 (0,5)(1,4)(2,3)"),
            ("6 (0,5)(1,4)(2,3)", "6 (0,3)(1,5)(2,4)"),
        ])

    def test_all_wires_of_small_sizes(self):
        for size in range(1, 7):
            for kind in ("swaps", "mirror"):
                firsts = wires_of_kind(size, kind)
                for wire in wires_of_size(size):
                    pairs = [(x, x >> wire) for x in firsts]
                    pairs = [(x, y) for x, y in pairs if (y.is_swaps() if kind == "swaps" else y.is_mirror())]
                    pairs.sort(key=lambda pair: pair[0].images())
                    with self.subTest(wire=str(wire), kind=kind):
                        if pairs:
                            self.assertEqual(halves(wire, kind), pairs)
                            self.assertEqual(many_halves(wire, kind), len(pairs))
                        else:
                            self.assertEqual(kind, "mirror")
                            self.assertRaises(NoHalves, halves, wire, kind)
                            self.assertRaises(NoHalves, many_halves, wire, kind)

    def test_no_halves(self):
        for rings, size, length in [([], 1, 1), ([], 3, 1), ([[0, 1]], 2, 2), ([[0, 1]], 3, 1), ([[0, 1]], 4, 2),
                                    ([[0, 1], [2, 3, 4]], 6, 1), ([[0, 1], [2, 3, 4]], 7, 2), ([[0, 1, 2, 3, 4]], 7, 5),
                                    ([[0, 1, 2], [3, 4]], 7, 2), ([[0, 1], [2, 3], [4, 5, 6]], 9, 3)]:
            for call in (halves, many_halves):
                self.raises(NoHalves, "length", length, call, Wire(size, rings), "mirror")
                self.assertTrue(call(Wire(size, rings), "swaps"))

    def test_no_kind(self):
        for kind in ["wire", "", "swaps 2", "mirrors", "Swaps", " mirror"]:
            for call in (halves, many_halves):
                self.raises(NoKind, "kind", kind, call, Wire(2, []), kind)
                self.raises(NoKind, "kind", kind, call, Wire(3, [[0, 1]]), kind)

    def test_lists_are_new_and_the_wire_stays(self):
        wire = Wire(4, [[0, 1], [2, 3]])
        expected = texts(halves(wire, "swaps"))
        self.assertEqual(len(expected), 6)
        halves(wire, "swaps").clear()
        self.assertEqual(texts(halves(wire, "swaps")), expected)
        self.assertEqual(str(wire), "4 (0,1)(2,3)")


class LimitsTest(unittest.TestCase):
    def setUp(self):
        self.begin = time.perf_counter()

    def tearDown(self):
        self.assertLess(time.perf_counter() - self.begin, 30)

    def check(self, wire, kind, many):
        found = halves(wire, kind)
        self.assertEqual([len(found), many_halves(wire, kind)], [many, many])
        self.assertEqual(sorted(found, key=lambda pair: pair[0].images()), found)
        self.assertEqual(len({str(x) for x, _ in found}), many)
        for x, y in found[::97]:
            self.assertEqual(x >> y, wire)
            self.assertTrue(x.is_swaps() and y.is_swaps())

    def test_many_items(self):
        self.check(Wire(10, []), "swaps", 9496)
        self.check(Wire(12, []), "mirror", 10395)
        rings = [list(range(first, first + 20)) for first in (0, 20, 40)]
        self.check(Wire(60, rings), "swaps", 9200)
        rings = [[place, place + 1, place + 2, place + 3, place + 4] for place in range(0, 30, 5)]
        self.check(Wire(30, rings), "mirror", 1875)
        rings = [[place, place + 1] for place in range(0, 14, 2)]
        self.check(Wire(14, rings), "swaps", 6512)

    def test_sixty_places(self):
        # The number of swaps of 60 places, and of the mirrors of 60 places.
        swaps, before = 1, 1
        for size in range(2, 61):
            swaps, before = swaps + (size - 1) * before, swaps
        mirrors = 1
        for size in range(1, 60, 2):
            mirrors *= size
        self.assertEqual(many_halves(Wire(60, []), "swaps"), swaps)
        self.assertEqual(many_halves(Wire(60, []), "mirror"), mirrors)
        self.assertEqual(many_halves(Wire(60, [list(range(60))]), "swaps"), 60)
        self.assertEqual(many_halves(Wire(60, [list(range(30)), list(range(30, 60))]), "mirror"), 30)
        rings = [[place, place + 1] for place in range(0, 60, 2)]
        self.assertEqual(many_halves(Wire(60, rings), "mirror"), 29 * 27 * 25 * 23 * 21 * 19 * 17 * 15 * 13 * 11
                         * 9 * 7 * 5 * 3 * 2 ** 15)


class InterfaceTest(unittest.TestCase):
    def test_example(self):
        wire = Wire(4, [[0, 1], [2, 3]])
        self.assertEqual([many_halves(wire, "swaps"), [(str(x), str(y)) for x, y in halves(wire, "mirror")]],
                         [6, [('4 (0,2)(1,3)', '4 (0,3)(1,2)'), ('4 (0,3)(1,2)', '4 (0,2)(1,3)')]])


if __name__ == "__main__":
    unittest.main()
