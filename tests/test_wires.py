"""Wires: points 2 to 5, and what point 1 says of them."""

import itertools
import math
import unittest
from unittest import mock

from turnwires.errors import NoPlace, NoRing, NoSize, NoText, WrongSize
from turnwires.wires import Wire


def wire_of_images(images):
    """Return the wire with these images, its rings told in an unusual way on purpose."""
    rings = []
    for place in reversed(range(len(images))):
        if not any(place in ring for ring in rings):
            ring = [place]
            while images[ring[-1]] != place:
                ring.append(images[ring[-1]])
            rings.append(ring)
    return Wire(len(images), rings)


def wires_of_size(size):
    return [wire_of_images(images) for images in itertools.permutations(range(size))]


WIRES = [wire for size in range(1, 6) for wire in wires_of_size(size)]


class WiresTest(unittest.TestCase):
    def raises(self, error, attribute, value, call, *arguments):
        with self.assertRaises(error) as caught:
            call(*arguments)
        self.assertIs(caught.exception.__class__, error)
        self.assertEqual(getattr(caught.exception, attribute), value)

    # Point 2

    def test_rings_lead_along(self):
        wire = Wire(7, [[4, 2, 6], [1, 0]])
        self.assertEqual([wire[place] for place in range(7)], [1, 0, 6, 3, 2, 5, 4])
        self.assertEqual(wire.size, 7)

    def test_places_in_no_ring_and_rings_of_one_place_stay(self):
        self.assertEqual(Wire(3, []).images(), [0, 1, 2])
        self.assertEqual(Wire(3, [[1], [2]]).images(), [0, 1, 2])
        self.assertEqual(Wire(1, [[0]]).images(), [0])

    def test_size_60_and_beyond(self):
        wire = Wire(60, [list(range(60))])
        self.assertEqual(wire.images(), [*range(1, 60), 0])
        self.assertEqual(Wire(70, [[69, 0]])[69], 0)

    def test_no_size(self):
        for size in (0, -1, -10 ** 59):
            self.raises(NoSize, "size", size, Wire, size, [])

    def test_no_size_comes_before_no_ring(self):
        self.raises(NoSize, "size", 0, Wire, 0, [[]])
        self.raises(NoSize, "size", -3, Wire, -3, [[0, 0]])

    def test_no_ring(self):
        for index, rings in [
            (0, [[]]),
            (1, [[0, 1], []]),
            (0, [[4]]),
            (0, [[0, 4]]),
            (0, [[4, 0]]),
            (0, [[-1]]),
            (1, [[0], [1, -1]]),
            (0, [[10 ** 59]]),
            (0, [[0, 0]]),
            (1, [[3], [0, 1, 0]]),
            (1, [[0, 1], [2, 1]]),
            (2, [[0], [1], [0]]),
            (1, [[0], [0]]),
        ]:
            with self.subTest(rings=rings):
                self.raises(NoRing, "index", index, Wire, 4, rings)

    def test_no_ring_tells_the_first_one(self):
        self.raises(NoRing, "index", 1, Wire, 3, [[0], [1, 1], [], [7]])
        self.raises(NoRing, "index", 0, Wire, 3, [[7], []])
        self.raises(NoRing, "index", 1, Wire, 3, [[0, 1], [2, 0], [2, 2]])

    def test_what_is_passed_is_not_modified_and_not_kept(self):
        rings = [[2, 0], [1]]
        wire = Wire(4, rings)
        self.assertEqual(rings, [[2, 0], [1]])
        rings[0].append(3)
        rings.pop()
        rings[0][0] = 1
        self.assertEqual(wire.images(), [2, 1, 0, 3])
        with self.assertRaises(NoRing):
            Wire(4, rings + [[0]])
        self.assertEqual(rings, [[1, 0, 3]])

    # Point 3

    def test_no_place(self):
        wire = Wire(4, [[0, 3]])
        for place in (-1, 4, -4, 10 ** 59, -10 ** 59):
            self.raises(NoPlace, "place", place, lambda: wire[place])

    def test_a_wire_is_not_iterated_over(self):
        with self.assertRaises(TypeError):
            list(Wire(2, []))

    def test_images(self):
        for size in range(1, 6):
            for images in itertools.permutations(range(size)):
                self.assertEqual(wire_of_images(images).images(), list(images))

    def test_rings(self):
        self.assertEqual(Wire(9, [[8, 3], [5], [7, 6, 0], [2, 1]]).rings(), [[0, 7, 6], [1, 2], [3, 8]])
        self.assertEqual(Wire(3, []).rings(), [])
        for wire in WIRES:
            rings = wire.rings()
            self.assertEqual(Wire(wire.size, rings), wire)
            self.assertTrue(all(len(ring) > 1 and ring[0] == min(ring) for ring in rings))
            self.assertEqual(rings, sorted(rings))
            self.assertTrue(all(wire[p] == q for ring in rings for p, q in zip(ring, ring[1:])))

    def test_returned_lists_are_new(self):
        wire = Wire(4, [[0, 1, 2]])
        wire.images().clear()
        rings = wire.rings()
        rings[0].append(3)
        rings.append([3])
        self.assertEqual(wire.images(), [1, 2, 0, 3])
        self.assertEqual(wire.rings(), [[0, 1, 2]])

    def test_equal(self):
        self.assertTrue(Wire(5, [[3, 1], [2]]) == Wire(5, [[1, 3], [4]]))
        self.assertFalse(Wire(5, [[3, 1], [2]]) != Wire(5, [[1, 3], [4]]))
        for one, other in itertools.product(wires_of_size(3), repeat=2):
            self.assertEqual(one == other, one.images() == other.images())
            self.assertEqual(one != other, one.images() != other.images())

    def test_unlike_sizes_are_not_equal(self):
        self.assertFalse(Wire(4, [[0, 1]]) == Wire(5, [[0, 1]]))
        self.assertTrue(Wire(4, [[0, 1]]) != Wire(5, [[0, 1]]))

    def test_equal_to_nothing_else(self):
        wire = Wire(2, [[0, 1]])
        for other in (None, 2, "2 (0,1)", [1, 0], (1, 0), [[0, 1]], {0: 1, 1: 0}, object(), Wire):
            self.assertFalse(wire == other)
            self.assertTrue(wire != other)
        self.assertFalse(wire == mock.ANY)

    # Point 4

    def test_first_one_then_the_other(self):
        for one, other in itertools.product(wires_of_size(4), repeat=2):
            both = one >> other
            self.assertEqual(both.images(), [other[one[place]] for place in range(4)])

    def test_wrong_size(self):
        self.raises(WrongSize, "size", 5, lambda: Wire(4, []) >> Wire(5, []))
        self.raises(WrongSize, "size", 3, lambda: Wire(4, [[0, 3]]) >> Wire(3, []))

    def test_way_back(self):
        for wire in WIRES:
            back = ~wire
            self.assertTrue(all(back[wire[place]] == place for place in range(wire.size)))

    def test_times(self):
        for wire in WIRES:
            same = Wire(wire.size, [])
            forth, back = same, same
            for k in range(14):
                self.assertEqual(wire.times(k), forth)
                self.assertEqual(wire.times(-k), back)
                self.assertEqual(wire ** k, forth)
                forth, back = forth >> wire, back >> ~wire

    def test_times_of_large_numbers(self):
        wire = Wire(60, [list(range(0, 59)), [59]])
        self.assertEqual(wire.times(60), wire)
        self.assertEqual(wire.times(-60), ~wire)
        self.assertEqual(wire.times(59 * 10 ** 57 + 2), wire >> wire)
        self.assertEqual(wire ** 60, wire)

    def test_order(self):
        for wire in WIRES:
            same = Wire(wire.size, [])
            powers = list(itertools.accumulate([wire] * 6, lambda power, more: power >> more))
            self.assertEqual(wire.order(), powers.index(same) + 1)

    def test_order_of_many_lengths(self):
        rings, start = [], 0
        for length in (2, 3, 5, 7, 11, 13, 17):
            rings.append(list(range(start, start + length)))
            start += length
        self.assertEqual(Wire(60, rings).order(), math.prod([2, 3, 5, 7, 11, 13, 17]))
        self.assertEqual(Wire(60, []).order(), 1)

    def test_is_swaps_and_is_mirror(self):
        for wire in WIRES:
            twice = wire >> wire
            swaps = twice == Wire(wire.size, [])
            stays = any(wire[place] == place for place in range(wire.size))
            self.assertIs(wire.is_swaps(), swaps)
            self.assertIs(wire.is_mirror(), swaps and not stays)

    def test_wires_stay_as_they_were(self):
        wire, other = Wire(4, [[0, 1, 2]]), Wire(4, [[2, 3]])
        _ = [wire >> other, ~wire, wire.times(5), wire ** 2, wire.order(), str(wire)]
        with self.assertRaises(WrongSize):
            wire >> Wire(3, [])
        self.assertEqual([wire.images(), other.images()], [[1, 2, 0, 3], [0, 1, 3, 2]])

    # Point 5

    def test_text(self):
        for text, size, rings in [
            ("5 (0,1)(2,3,4)", 5, [[3, 4, 2], [1, 0]]),
            ("5 ()", 5, []),
            ("1 ()", 1, [[0]]),
            ("12 (3,11,10)", 12, [[10, 3, 11], [4]]),
            ("60 (0,59)", 60, [[59, 0]]),
        ]:
            self.assertEqual(str(Wire(size, rings)), text)
            self.assertEqual(Wire.read(text), Wire(size, rings))

    def test_read_what_str_wrote(self):
        for wire in WIRES:
            self.assertEqual(Wire.read(str(wire)), wire)

    def test_read_large_sizes(self):
        text = "999 (" + ",".join(str(place) for place in range(999)) + ")"
        self.assertEqual(Wire.read(text)[998], 0)
        self.assertEqual(str(Wire.read(text)), text)
        self.assertEqual(Wire.read("999 ()").size, 999)

    def test_read_no_text(self):
        many = "9" * 5000
        for text in [
            "", " ", "()", "5", "5 ", " ()", "0 ()", "00 ()", "05 ()", "-5 ()", "+5 ()", "5  ()", " 5 ()",
            "5 () ", "5 ()\n", "\n5 ()", "5\n()", "5 ()()", "5 (0,1)()", "5 ()(0,1)", "5 (0)", "5 (0,1)(2)",
            "5 (1,0)", "5 (2,3)(0,1)", "5 (0,1)(3,2)", "5 (0,0)", "5 (0,1)(1,2)", "5 (0,1,0)", "5 (0,5)",
            "5 (0,6)", "5 (0,10)", "5 (-1,0)", "5 (00,1)", "5 (0,01)", "5 (0, 1)", "5 (0 ,1)", "5 (0,1) (2,3)",
            "5 ( )", "5 (0,1", "5 0,1)", "5 0,1", "5 (0,1))", "5 ((0,1)", "5 ((0,1))", "5 (,)", "5 (0,)",
            "5 (,0)", "5 (0,,1)", "5 (0;1)", "5 (a,b)", "5 (0,1)x", "x5 (0,1)", "a ()", "5_0 ()", "5 (0,1_0)",
            "5.0 ()", "5 )(", "5 (", "5 )", "1 (0)", "1 (0,1)", "() 5", "5 (0,1),(2,3)", "5 [0,1]",
            f"5 (0,{many})", f"5 ({many},0)", f"{many} (1,0)", f"{many} (0,1", f"0{many} ()", f"{many}",
            f"{10 ** 30} (1,0)", f"{10 ** 15} (0,{10 ** 15})", f"{10 ** 17} (0,{10 ** 17 + 1})",
        ]:
            with self.subTest(text=text[:40]):
                self.raises(NoText, "text", text, Wire.read, text)

    def test_read_all_short_texts(self):
        texts = {str(wire) for size in (1, 2, 3) for wire in wires_of_size(size)}
        for size in "0123":
            for length in range(6):
                for signs in itertools.product("012(),", repeat=length):
                    text = f"{size} {''.join(signs)}"
                    if text in texts:
                        self.assertEqual(str(Wire.read(text)), text)
                    else:
                        self.raises(NoText, "text", text, Wire.read, text)

    def test_read_texts_with_one_fault(self):
        for text in ("4 (0,2,1)", "4 (0,1)(2,3)", "4 ()"):
            for at in range(len(text)):
                for sign in ["", "x", " ", "\n", "~", "-", "(", ")", ",", "()", "0", "1"]:
                    for other in (text[:at] + sign + text[at:], text[:at] + sign + text[at + 1:]):
                        try:
                            wire = Wire.read(other)
                        except NoText as error:
                            self.assertEqual(error.text, other)
                        else:
                            self.assertEqual(str(wire), other)

    # The interface

    def test_example(self):
        a = Wire(4, [[0, 1, 2]])
        self.assertEqual([a[2], str(a >> Wire(4, [[2, 3]])), str(~a), a.order()], [0, "4 (0,1,3,2)", "4 (0,2,1)", 3])

    def test_methods_stand_in_the_class(self):
        names = ["read", "images", "rings", "times", "order", "is_swaps", "is_mirror", "__getitem__", "__eq__",
                 "__str__", "__rshift__", "__invert__", "__pow__", "__init__"]
        self.assertEqual([name for name in names if name not in vars(Wire)], [])
        self.assertEqual(Wire.__module__, "turnwires.wires")
        self.assertIsInstance(vars(Wire)["read"], staticmethod)


if __name__ == "__main__":
    unittest.main()
