"""Ways: points 11 and 12, and what point 1 says of them."""

import itertools
import math
import time
import unittest

from tests.helpers import fillings, fitting
from turnwires.wires import Wire
from turnwires.ways import Way, ways
from turnwires.words import Word

A, B = Word.hole("a"), Word.hole("b")
S, M = Word.hole("s", "swaps"), Word.hole("m", "mirror")
ZERO, ONE, TWO = (Word.hole(name, "swaps", most=most) for most, name in enumerate("zot"))
C = Word.known([[0, 1]])
KINDS = {"a": "wire", "b": "wire", "s": "swaps", "m": "mirror", "z": "swaps 0", "o": "swaps 1", "t": "swaps 2"}
TEXTS = [
    "()", "(0,3)", "a", "~a", "s", "m", "z", "o", "t", "a a", "~a ~a", "a a a", "a b", "~b a", "a b ~a", "a b ~a ~b",
    "a (0,1)", "(0,1) a", "(0,1) ~a (0,1) a", "~a (0,1) a", "a (0,2) a", "(1,2) a a", "a (1,2,4) ~a",
    "s (0,1)", "s (0,1) s", "s a s", "a s ~a", "~a m a", "m a m", "m (0,1) m", "m s m", "s m s m", "(0,2) m (0,1) m a",
    "o (0,1) o", "o (0,1,2) o (0,1) o", "z a z", "t (0,1) t (1,2) t", "o t o t", "a o ~a o", "t a t",
    "(3,4) o (0,1) o", "a (0,1) a (0,1) a", "~a (0,1,2) a (0,1) ~a", "o (0,1,2) o (0,1,2) o (0,1,2) o",
]
STARTS = (0, 1, 3)


def cases():
    return [(text, Word.read(text, KINDS), start) for text in TEXTS for start in STARTS]


def told(way):
    return way.end, way.size, way.fixed


def rows_of_parts(word):
    """Return the parts of a word, a use as its name and True for the way back, a known wire as its moves."""
    rows = []
    for text in str(word).split():
        if text.startswith("("):
            wire = Word.read(text, {}).filled(70, {})
            rows.append({place: wire[place] for place in range(70)})
        else:
            rows.append((text.lstrip("~"), text.startswith("~")))
    return rows


def least_free(places):
    return next(number for number in itertools.count() if number not in places)


def both_ways(kinds, fixed):
    """Return the triples (name, place, image) that are fixed, those of pairs both ways."""
    return fixed | {(name, image, place) for name, place, image in fixed if kinds[name] != "wire"}


def pairs_by_name(kinds, fixed):
    return {name: sorted((place, image) for other, place, image in fixed
                         if other == name and (kinds[name] == "wire" or place <= image)) for name in sorted(kinds)}


def can_lead(kind, pairs, place, image):
    """Tell if a wire can lead an unfixed place to the image, as point 11 says."""
    if kind == "wire":
        return not any(image == other for _, other in pairs)
    used = any(image in pair for pair in pairs)
    if kind == "mirror":
        return image != place and not used
    changing = {tuple(sorted(pair)) for pair in pairs if pair[0] != pair[1]}
    most = int(kind.split()[1]) if " " in kind else math.inf
    return image == place or not used and len(changing) < most


def plain_ways(kinds, rows, place, seen, fixed):
    """Return (end, seen places, fixed triples) of all ways from here on, just as point 11 tells them."""
    if not rows:
        return [(place, seen, fixed)]
    if isinstance(rows[0], dict):
        return plain_ways(kinds, rows[1:], rows[0][place], seen, fixed)
    name, back = rows[0]
    pairs = [triple[1:][::-1] if back else triple[1:] for triple in fixed if triple[0] == name]
    found = []
    for image in [*sorted(seen), least_free(seen)]:
        known = [other for start, other in pairs if start == place]
        if image in known or not known and can_lead(kinds[name], pairs, place, image):
            triple = (name, image, place) if back else (name, place, image)
            found += plain_ways(kinds, rows[1:], image, seen | {image}, both_ways(kinds, fixed | {triple}))
    return found


def traced(kinds, rows, start, named, wires):
    """Return the end and the pairs of the way along which the wires lead the start, renumbered."""
    numbers = {place: place for place in [*named, start]}
    place, fixed = start, set()
    for row in rows:
        if isinstance(row, dict):
            place = row[place]
            continue
        name, back = row
        image = wires[name].images().index(place) if back else wires[name][place]
        numbers.setdefault(image, least_free(numbers.values()))
        fixed.add((name, numbers[image], numbers[place]) if back else (name, numbers[place], numbers[image]))
        place = image
    return numbers[place], pairs_by_name(kinds, both_ways(kinds, fixed))


class BranchesTest(unittest.TestCase):
    """Point 11, and the order of point 12."""

    def test_words_without_holes_have_one_way(self):
        self.assertEqual([told(way) for way in ways(Word.same(), 0)], [(0, 1, {})])
        self.assertEqual([told(way) for way in ways(Word.same(), 7)], [(7, 8, {})])
        self.assertEqual([told(way) for way in ways(Word.known([[0, 2, 5]]), 2)], [(5, 6, {})])
        self.assertEqual([told(way) for way in ways(Word.known([[0, 2, 5]]), 9)], [(9, 10, {})])

    def test_a_wire(self):
        self.assertEqual([told(way) for way in ways(A, 0)], [(0, 1, {"a": [(0, 0)]}), (1, 2, {"a": [(0, 1)]})])
        self.assertEqual([told(way) for way in ways(~A, 0)], [(0, 1, {"a": [(0, 0)]}), (1, 2, {"a": [(1, 0)]})])

    def test_the_new_number_is_the_least_one_that_is_not_seen(self):
        self.assertEqual([told(way) for way in ways(A, 2)], [(2, 3, {"a": [(2, 2)]}), (0, 3, {"a": [(2, 0)]})])
        self.assertEqual([way.end for way in ways(A >> Word.known([[0, 3], [1, 4]]), 5)], [3, 4, 0, 1, 5, 2])
        self.assertEqual([way.end for way in ways(A >> B, 1)], [1, 0, 0, 1, 2])

    def test_seen_places_come_in_ascending_order(self):
        known = Word.known([[8, 59], [33, 2, 1]])
        self.assertEqual([told(way) for way in ways(known >> A, 16)], [
            (place, 60, {"a": [(16, place)]}) for place in (1, 2, 8, 16, 33, 59, 0)
        ])

    def test_named_places_of_the_one_form_alone_are_seen(self):
        self.assertEqual([way.end for way in ways(C >> C >> A, 3)], [3, 0])
        self.assertEqual([way.end for way in ways(A >> Word.known([[5, 6]]), 0)], [0, 6, 5, 1])

    def test_what_is_fixed_is_not_chosen_again(self):
        self.assertEqual([told(way) for way in ways(A >> A, 0)], [
            (0, 1, {"a": [(0, 0)]}), (0, 2, {"a": [(0, 1), (1, 0)]}), (2, 3, {"a": [(0, 1), (1, 2)]}),
        ])
        self.assertEqual([told(way) for way in ways(C.under(A), 0)], [
            (1, 2, {"a": [(0, 0), (1, 1)]}), (2, 3, {"a": [(0, 0), (1, 2)]}),
            (1, 2, {"a": [(0, 1), (1, 0)]}), (2, 3, {"a": [(0, 2), (1, 0)]}),
            (0, 3, {"a": [(2, 0)]}),
        ])

    def test_a_way_back_leads_to_no_place_whose_image_is_fixed(self):
        self.assertEqual([told(way) for way in ways(A >> C >> ~A, 0)], [
            (1, 2, {"a": [(0, 0), (1, 1)]}), (2, 3, {"a": [(0, 0), (2, 1)]}),
            (1, 2, {"a": [(0, 1), (1, 0)]}), (2, 3, {"a": [(0, 1), (2, 0)]}),
            (0, 3, {"a": [(0, 2)]}),
        ])

    def test_swaps(self):
        self.assertEqual([told(way) for way in ways(S, 0)], [(0, 1, {"s": [(0, 0)]}), (1, 2, {"s": [(0, 1)]})])
        self.assertEqual([told(way) for way in ways(S >> C >> S, 1)], [
            (0, 2, {"s": [(0, 1)]}),
            (0, 2, {"s": [(0, 0), (1, 1)]}), (2, 3, {"s": [(0, 2), (1, 1)]}),
            (1, 3, {"s": [(1, 2)]}),
        ])

    def test_swaps_of_a_place_that_stays_are_no_pair(self):
        word = ONE >> C >> ONE
        self.assertEqual([told(way) for way in ways(word, 0)], [
            (1, 2, {"o": [(0, 0), (1, 1)]}), (2, 3, {"o": [(0, 0), (1, 2)]}),
            (1, 2, {"o": [(0, 1)]}),
            (0, 3, {"o": [(0, 2)]}),
        ])

    def test_bounds(self):
        known = Word.known([[0, 1, 2]])
        self.assertEqual([told(way) for way in ways(ZERO, 0)], [(0, 1, {"z": [(0, 0)]})])
        self.assertEqual([told(way) for way in ways(ONE >> known >> ONE, 5)], [
            (1, 6, {"o": [(0, 5), (1, 1)]}), (2, 6, {"o": [(1, 5), (2, 2)]}), (0, 6, {"o": [(0, 0), (2, 5)]}),
            (5, 6, {"o": [(5, 5)]}), (5, 6, {"o": [(3, 5)]}),
        ])
        self.assertEqual([told(way) for way in ways(TWO >> known >> TWO, 0) if way.fixed["t"][0] == (0, 3)],
                         [(0, 4, {"t": [(0, 3)]})])
        many = Word.hole("s", "swaps", most=10 ** 59)
        word = Word.known([[0, 1]])
        self.assertEqual([told(way) for way in ways(many >> word >> many, 1)],
                         [told(way) for way in ways(S >> word >> S, 1)])

    def test_mirrors(self):
        self.assertEqual([told(way) for way in ways(M, 0)], [(1, 2, {"m": [(0, 1)]})])
        self.assertEqual([told(way) for way in ways(M >> C >> M, 0)], [
            (1, 2, {"m": [(0, 1)]}), (0, 4, {"m": [(0, 2)]}),
        ])
        self.assertEqual([told(way) for way in ways(M >> Word.known([[0, 2]]) >> M, 0)], [
            (2, 4, {"m": [(0, 2)]}), (0, 4, {"m": [(0, 1)]}),
        ])
        self.assertEqual([told(way) for way in ways(M >> Word.known([[0, 1, 2]]) >> M, 3)], [
            (2, 4, {"m": [(0, 3), (1, 2)]}), (4, 6, {"m": [(0, 3), (1, 4)]}),
            (0, 4, {"m": [(0, 2), (1, 3)]}), (4, 6, {"m": [(1, 3), (2, 4)]}),
            (1, 4, {"m": [(0, 1), (2, 3)]}), (4, 6, {"m": [(0, 4), (2, 3)]}),
            (3, 6, {"m": [(3, 4)]}),
        ])

    def test_ways_of_many_words(self):
        for text, word, start in cases():
            with self.subTest(text=text, start=start):
                expected = [
                    (end, fitting(range(1, 80), [word], seen)[0], pairs_by_name(word.kinds, fixed)) for end, seen, fixed
                    in plain_ways(word.kinds, rows_of_parts(word), start, {*word.named, start}, frozenset())
                ]
                self.assertEqual([told(way) for way in ways(word, start)], expected)


class WaysTest(unittest.TestCase):
    """Point 12."""

    def test_attributes(self):
        word = S >> C >> ~B >> A >> M >> C
        for way in ways(word, 5):
            self.assertIsInstance(way, Way)
            self.assertEqual(way.start, 5)
            self.assertEqual(way.size % 2, 0)
            self.assertEqual(list(way.fixed), ["a", "b", "m", "s"])

    def test_each_filling_leads_along_exactly_one_way(self):
        for text, word, start in cases():
            found = [(way.end, way.fixed) for way in ways(word, start)]
            for size in fitting(range(1, 6), [word], [start]):
                if math.factorial(size) ** len(word.holes) > 2000:
                    continue
                with self.subTest(text=text, start=start, size=size):
                    met = []
                    for wires in fillings(size, word.kinds):
                        trace = traced(word.kinds, rows_of_parts(word), start, word.named, wires)
                        self.assertEqual(found.count(trace), 1)
                        met.append(trace)
                    for way in ways(word, start):
                        self.assertEqual((way.end, way.fixed) in met, way.size <= size)

    def test_ways_are_gone_through_one_by_one(self):
        word = Word.same()
        for name in "abcdefghijklmnopqrstuvwxyz":
            word = word >> Word.hole(name)
        found = ways(word, 0)
        self.assertIs(iter(found), found)
        self.assertEqual([next(found).end for _ in range(3)], [0, 1, 0])

    def test_ways_of_several_walks_are_apart(self):
        word = A >> C >> A
        expected = [told(way) for way in ways(word, 0)]
        found = []
        for one, other in zip(ways(word, 0), ways(word, 0)):
            found.append((one.end, one.size, {name: list(pairs) for name, pairs in one.fixed.items()}))
            for way in (one, other):
                for pairs in way.fixed.values():
                    pairs.append((9, 9))
                way.fixed["b"] = []
        self.assertEqual(found, expected)
        self.assertEqual([told(way) for way in ways(word, 0)], expected)

    def test_the_word_stays_as_it_was(self):
        word = M >> C >> ~A >> ONE
        list(ways(word, 0))
        self.assertEqual(word, M >> C >> ~A >> ONE)
        self.assertEqual(str(word), "m (0,1) ~a o")


class LimitsTest(unittest.TestCase):
    def setUp(self):
        self.begin = time.perf_counter()

    def tearDown(self):
        self.assertLess(time.perf_counter() - self.begin, 30)

    def test_six_holes_and_five_places(self):
        word = Word.known([[4, 1], [2, 3]])
        for name in "abcdef":
            word = word >> Word.hole(name)
        # r-Bell number for 6 and r = 5: each hole leads to a seen place or to a new one.
        self.assertEqual(sum(1 for _ in ways(word, 0)), 73013)

    def test_twelve_uses_of_one_hole_and_three_places(self):
        known = Word.known([[0, 1, 2]])
        for hole in (A, S, M, ONE, ~A):
            word = (hole >> known) ** 12
            found = list(ways(word, 0))
            self.assertEqual(len(word), 12)
            self.assertEqual(len({str(way.fixed) for way in found}), len(found))
        word = (A >> known >> ~A >> known) ** 6
        self.assertEqual(len(word), 12)
        self.assertEqual(len(list(ways(word, 2))), 91)

    def test_places_up_to_60(self):
        word = Word.known([[59, 60]]) >> A
        self.assertEqual([told(way) for way in ways(word, 59)], [
            (59, 61, {"a": [(60, 59)]}), (60, 61, {"a": [(60, 60)]}), (0, 61, {"a": [(60, 0)]}),
        ])

    def test_hundred_parts(self):
        self.assertEqual([way.end for way in ways(A ** 100, 0)], [0, *(100 % k for k in range(2, 101)), 100])


class InterfaceTest(unittest.TestCase):
    def test_example(self):
        a = Word.hole("a")
        self.assertEqual([(way.end, way.size, way.fixed) for way in ways(a >> a, 0)], [
            (0, 1, {'a': [(0, 0)]}), (0, 2, {'a': [(0, 1), (1, 0)]}), (2, 3, {'a': [(0, 1), (1, 2)]}),
        ])


if __name__ == "__main__":
    unittest.main()
