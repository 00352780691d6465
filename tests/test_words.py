"""Words: points 6 to 10, and what point 1 says of them."""

import functools
import itertools
import unittest
from unittest import mock

from tests.helpers import Raising, fillings
from turnwires.errors import (
    NoKind, NoMost, NoName, NoPart, NoRing, NoSize, TwoKinds, Unfilled, WrongKind, WrongSize,
)
from turnwires.wires import Wire
from turnwires.words import Word

A, B = Word.hole("a"), Word.hole("b")
S, M = Word.hole("s", "swaps"), Word.hole("m", "mirror")
C, D = Word.known([[0, 1]]), Word.known([[2, 1], [4, 3]])
KINDS = {"m": "mirror", "a": "wire", "t": "swaps 2", "b": "wire", "s": "swaps"}


def led(texts, kinds, size, wires):
    """Return the wire of a row of parts, told as texts, by leading each place through it."""
    images = []
    for place in range(size):
        for text in texts:
            if text == "()":
                continue
            if text.startswith("("):
                place = Wire(size, [list(map(int, ring.split(","))) for ring in text[1:-1].split(")(")])[place]
            elif text.startswith("~"):
                place = wires[text[1:]].images().index(place)
            else:
                place = wires[text][place]
        images.append(place)
    return images


def shortened(row):
    """Return each row that one use of one rule of point 8 makes of a row of uses and images."""
    rows = []
    for at, part in enumerate(row):
        if part == (0, 1, 2):
            rows.append(row[:at] + row[at + 1:])
    for at, (one, other) in enumerate(zip(row, row[1:])):
        if isinstance(one, tuple) and isinstance(other, tuple):
            rows.append(row[:at] + (tuple(other[place] for place in one),) + row[at + 2:])
        elif not isinstance(one, tuple) and not isinstance(other, tuple) and one[-1] == other[-1]:
            if KINDS[one[-1]] != "wire" or one != other:
                rows.append(row[:at] + row[at + 2:])
    return rows


@functools.cache
def ends(row):
    """Return all rows without a rule to use that the rules can make of a row."""
    rows = shortened(row)
    return frozenset().union(*[ends(other) for other in rows]) if rows else frozenset([row])


def row_text(row):
    """Return the text of a row of uses and images of the places 0, 1, 2."""
    rings = {(1, 0, 2): "(0,1)", (0, 2, 1): "(1,2)", (2, 1, 0): "(0,2)", (1, 2, 0): "(0,1,2)", (2, 0, 1): "(0,2,1)"}
    texts = [rings[part] if part in rings else part if KINDS[part[-1]] == "wire" else part[-1] for part in row]
    return " ".join(texts) or "()"


class HolesTest(Raising):
    """Point 6."""

    def test_kinds(self):
        self.assertEqual(Word.hole("a").kinds, {"a": "wire"})
        self.assertEqual(Word.hole("a", "wire").kinds, {"a": "wire"})
        self.assertEqual(Word.hole("a", kind="swaps").kinds, {"a": "swaps"})
        self.assertEqual(Word.hole("a", "mirror").kinds, {"a": "mirror"})
        self.assertEqual(Word.hole("a", "swaps", most=0).kinds, {"a": "swaps 0"})
        self.assertEqual(Word.hole("a", "swaps", most=12).kinds, {"a": "swaps 12"})
        self.assertEqual(Word.hole("a", "swaps", most=None).kinds, {"a": "swaps"})
        self.assertEqual(Word.hole("a", "wire", most=None).kinds, {"a": "wire"})

    def test_names(self):
        for name in ("a", "z", "az", "abcdefgh", "zzzzzzzz", "wire", "swaps"):
            self.assertEqual(str(Word.hole(name)), name)

    def test_no_name(self):
        for name in ("", "abcdefghi", "A", "aB", "a1", "1", "a b", " a", "a\n", "a_", "~a", "()", "{", "`", "a" * 500):
            self.raises(NoName, "name", name, Word.hole, name)

    def test_no_kind(self):
        for kind in ("", "Wire", "wires", "swap", "swaps 2", "mirror ", " wire", "known", "\n"):
            self.raises(NoKind, "kind", kind, Word.hole, "a", kind)

    def test_no_most(self):
        for kind, most in [("swaps", -1), ("swaps", -10 ** 59), ("wire", 0), ("wire", 3), ("mirror", 1),
                           ("mirror", -1), ("wire", -2)]:
            self.raises(NoMost, "most", most, Word.hole, "a", kind, most=most)
        self.raises(NoMost, "most", 2, Word.hole, "a", most=2)

    def test_order_of_errors(self):
        self.raises(NoName, "name", "A", Word.hole, "A", "x", most=-1)
        self.raises(NoKind, "kind", "x", Word.hole, "a", "x", most=-1)
        self.raises(NoName, "name", "", Word.hole, "", "wire", most=1)

    def test_known(self):
        self.assertEqual(str(Word.known([[3, 2], [5], [1, 0, 60]])), "(0,60,1)(2,3)")
        self.assertEqual(Word.known([[4, 9]]).named, [4, 9])
        self.assertEqual(Word.known([]), Word.same())
        self.assertEqual(Word.known([[7], [3]]), Word.same())
        self.assertEqual(Word.known([[2, 0, 1]]).filled(5, {}), Wire(5, [[0, 1, 2]]))

    def test_known_no_ring(self):
        for index, rings in [(0, [[]]), (1, [[2], []]), (0, [[-1]]), (1, [[0], [4, -2]]), (0, [[5, 5]]),
                             (1, [[0, 1], [2, 0]]), (2, [[0], [1], [1]]), (1, [[0], [1, 1], []])]:
            self.raises(NoRing, "index", index, Word.known, rings)

    def test_known_keeps_nothing_of_its_rings(self):
        rings = [[2, 0], [1]]
        word = Word.known(rings)
        self.assertEqual(rings, [[2, 0], [1]])
        rings[0][0] = 7
        rings.clear()
        self.assertEqual(str(word), "(0,2)")

    def test_same(self):
        self.assertEqual([str(Word.same()), len(Word.same()), Word.same().named], ["()", 0, []])
        self.assertEqual(Word.same().filled(3, {}), Wire(3, []))


class PuttingTogetherTest(Raising):
    """Point 7."""

    def test_first_one_then_the_other(self):
        self.assertEqual(str(A >> C >> B), "a (0,1) b")
        self.assertEqual(str(B >> ~A), "b ~a")
        self.assertEqual(str(Word.known([[0, 1]]) >> Word.known([[1, 2]])), "(0,2,1)")

    def test_way_back(self):
        word = A >> Word.known([[0, 1, 2]]) >> S >> ~B
        self.assertEqual(str(~word), "b s (0,2,1) ~a")
        self.assertEqual(~~word, word)
        self.assertEqual(word >> ~word, Word.same())
        self.assertEqual(str(~Word.same()), "()")
        self.assertEqual(~C, C)

    def test_times(self):
        for word in (A, S, C, C >> A, C.under(A), A >> S, Word.known([[0, 1, 2]]), Word.same(), M >> D):
            forth, back = Word.same(), Word.same()
            for k in range(8):
                self.assertEqual(word.times(k), forth)
                self.assertEqual(word.times(-k), back)
                self.assertEqual(word ** k, forth)
                forth, back = forth >> word, back >> ~word

    def test_times_60(self):
        self.assertEqual(len(A.times(60)), 60)
        self.assertEqual(A.times(60) >> A.times(-60), Word.same())
        self.assertEqual(str((A >> B) ** 60), " ".join(["a b"] * 60))
        self.assertEqual(str(C.under(A >> S).times(59)), "s ~a (0,1) a s")
        self.assertEqual(M.times(60), Word.same())

    def test_under(self):
        self.assertEqual(str(C.under(A)), "~a (0,1) a")
        self.assertEqual(str(A.under(C)), "(0,1) a (0,1)")
        self.assertEqual(str(M.under(A >> B)), "~b ~a m a b")
        self.assertEqual(A.under(A), A)
        for p, q in itertools.product((A, S, C >> B, D, Word.same()), repeat=2):
            self.assertEqual(p.under(q), ~q >> p >> q)

    def test_two_kinds(self):
        other = Word.hole("a", "swaps")
        for p, q in itertools.permutations([A, other, Word.hole("a", "mirror"), Word.hole("a", "swaps", most=1),
                                            Word.hole("a", "swaps", most=2), Word.hole("a", "swaps", most=0)], 2):
            self.raises(TwoKinds, "name", "a", lambda: p >> q)
            self.raises(TwoKinds, "name", "a", p.under, q)
            self.raises(TwoKinds, "name", "a", lambda: (C >> p >> B) >> (M >> q))
        self.assertEqual(Word.hole("a", "swaps", most=1) >> Word.hole("a", "swaps", most=1), Word.same())

    def test_two_kinds_tells_the_alphabetically_first_name(self):
        one = Word.read("zz b ab a c", {"zz": "wire", "b": "wire", "ab": "wire", "a": "wire", "c": "swaps"})
        other = Word.read("c zz b ab a", {"zz": "swaps", "b": "mirror", "ab": "swaps 1", "a": "wire", "c": "swaps"})
        self.raises(TwoKinds, "name", "ab", lambda: one >> other)
        self.raises(TwoKinds, "name", "ab", lambda: other >> one)
        self.raises(TwoKinds, "name", "ab", one.under, other)
        self.raises(TwoKinds, "name", "ab", other.under, one)

    def test_two_kinds_looks_at_the_one_forms(self):
        swaps = Word.hole("a", "swaps")
        self.assertEqual((A >> B >> ~B >> ~A) >> swaps, swaps)
        self.assertEqual(A >> (swaps >> swaps), A)
        self.assertEqual(A.times(0) >> swaps, swaps)
        self.raises(TwoKinds, "name", "a", lambda: A >> swaps >> swaps)

    def test_words_stay_as_they_were(self):
        words = [A, S, C, C.under(A), D >> M >> ~B]
        texts = [str(word) for word in words]
        for one, other in itertools.product(words, repeat=2):
            _ = [one >> other, ~one, one.times(-3), one ** 2, one.under(other), one == other]
        with self.assertRaises(TwoKinds):
            A >> Word.hole("a", "mirror")
        self.assertEqual([str(word) for word in words], texts)


class FormTest(Raising):
    """Point 8."""

    def test_rules(self):
        kinds = {"a": "wire", "s": "swaps", "t": "swaps 2", "m": "mirror"}
        for text, form in [
            ("(0,1) (1,2)", "(0,2,1)"),
            ("(0,1) (2,3)", "(0,1)(2,3)"),
            ("(0,1,2) (0,1,2)", "(0,2,1)"),
            ("(0,1) (0,1)", "()"),
            ("a (5) a", "a a"),
            ("a ~a", "()"), ("~a a", "()"), ("a a", "a a"), ("~a ~a", "~a ~a"),
            ("s s", "()"), ("t t", "()"), ("m m", "()"), ("s ~s", "()"), ("~m m", "()"), ("~t ~t", "()"),
            ("~s a ~m", "s a m"), ("s s s", "s"), ("s t", "s t"),
            ("a (0,1) s s (0,1) ~a", "()"),
            ("(0,1) a s m m s ~a (1,2)", "(0,2,1)"),
            ("a s (0,1) a", "a s (0,1) a"),
        ]:
            with self.subTest(text):
                self.assertEqual(str(Word.read(text, kinds)), form)

    def test_all_orders_of_the_rules_lead_to_the_form(self):
        signs = {"a": A, "~a": ~A, "s": S, "~s": ~S, (1, 0, 2): C, (1, 2, 0): Word.known([[0, 1, 2]]),
                 (0, 1, 2): Word.same()}
        for length in range(6):
            for row in itertools.product(signs, repeat=length):
                forms = {row_text(end) for end in ends(row)}
                word = Word.same()
                for part in row:
                    word = word >> signs[part]
                self.assertEqual(forms, {str(word)})

    def test_the_form_leads_as_the_row_does(self):
        kinds = {"a": "wire", "m": "mirror"}
        wires = [filling for filling in fillings(4, kinds) if filling["a"][0] == 1 and filling["a"][1] != 0]
        for row in itertools.product(["a", "~a", "m", "~m", "(0,1)", "(0,2,1)", "()"], repeat=4):
            word = Word.read(" ".join(row), kinds)
            for filling in wires[::4]:
                self.assertEqual(word.filled(4, filling).images(), led(row, kinds, 4, filling))

    def test_equal(self):
        self.assertTrue(C >> C.under(A) == Word.read("(1,0) ~a (0,1) a", {"a": "wire"}))
        self.assertFalse(C >> C.under(A) != Word.read("(1,0) ~a (0,1) a", {"a": "wire"}))
        texts = ["a", "~a", "b", "a b", "b a", "(0,1)", "(0,2)", "(0,1,2)", "(0,2,1)", "()", "a (0,1)", "(0,1) a"]
        for one, other in itertools.product(texts, repeat=2):
            p, q = Word.read(one, KINDS), Word.read(other, KINDS)
            self.assertIs(p == q, one == other)
            self.assertIs(p != q, one != other)

    def test_unlike_kinds_are_not_equal(self):
        holes = [Word.hole("a"), Word.hole("a", "swaps"), Word.hole("a", "mirror")]
        holes += [Word.hole("a", "swaps", most=most) for most in (0, 1, 2)]
        for (at, p), (to, q) in itertools.product(enumerate(holes), repeat=2):
            self.assertIs(p == q, at == to)
            self.assertIs(p != q, at != to)

    def test_kinds_of_holes_that_are_gone_do_not_count(self):
        self.assertTrue(A >> ~A == S >> S)
        self.assertTrue((A >> ~A >> B) == (Word.hole("a", "mirror") >> Word.hole("a", "mirror") >> B))

    def test_equal_to_nothing_else(self):
        for other in (None, "a", ["a"], {"a": "wire"}, 1, Wire(2, []), object(), Word):
            self.assertFalse(A == other)
            self.assertTrue(A != other)
        self.assertFalse(Word.same() == Wire(1, []))
        self.assertFalse(A == mock.ANY)

    def test_uses(self):
        for text, uses in [("()", 0), ("(0,1)", 0), ("a", 1), ("~a (0,1) a", 2), ("a a s (2,3) b ~a", 5), ("a ~a", 0)]:
            self.assertEqual(len(Word.read(text, KINDS)), uses)

    def test_holes(self):
        self.assertEqual(Word.read("s b (0,1) a ~b m ~a", KINDS).holes, ["a", "b", "m", "s"])
        self.assertEqual(Word.read("ab b a", dict.fromkeys(["ab", "b", "a"], "wire")).holes, ["a", "ab", "b"])
        self.assertEqual(Word.read("b a ~a", KINDS).holes, ["b"])
        self.assertEqual(C.holes, [])

    def test_kinds(self):
        kinds = Word.read("t s m b a", KINDS).kinds
        self.assertEqual(list(kinds.items()), [("a", "wire"), ("b", "wire"), ("m", "mirror"), ("s", "swaps"),
                                               ("t", "swaps 2")])
        self.assertEqual(list((S >> A >> M).kinds), ["a", "m", "s"])
        self.assertEqual(Word.same().kinds, {})

    def test_named(self):
        self.assertEqual(Word.read("(9,3) a (4)(0,3) b (3,10,2)", KINDS).named, [0, 2, 3, 9, 10])
        self.assertEqual(Word.read("(0,1) a ~a (0,1) (7,5)", KINDS).named, [5, 7])
        self.assertEqual((A >> S).named, [])

    def test_named_of_what_is_left_of_known_wires(self):
        self.assertEqual((Word.known([[0, 1]]) >> Word.known([[0, 1], [2, 3]])).named, [2, 3])

    def test_all_three_are_new_each_time(self):
        word = C.under(A)
        word.holes.append("b")
        word.kinds["b"] = "swaps"
        word.kinds.clear()
        word.named.append(9)
        self.assertEqual([word.holes, word.kinds, word.named], [["a"], {"a": "wire"}, [0, 1]])
        self.assertEqual(word, C.under(A))


class TextTest(Raising):
    """Point 9."""

    def test_text(self):
        self.assertEqual(str(Word.known([[12, 3], [11, 10, 2]]) >> ~A >> B >> S), "(2,11,10)(3,12) ~a b s")
        self.assertEqual(str(A >> ~A), "()")

    def test_read_what_str_wrote(self):
        for row in itertools.product(["a", "~b", "s", "~s", "t", "m", "(0,1)", "(3,2)(5,1,4)", "()"], repeat=3):
            word = Word.read(" ".join(row), KINDS)
            self.assertEqual(Word.read(str(word), KINDS), word)
            self.assertEqual(Word.read(str(word), word.kinds), word)
            self.assertEqual(str(Word.read(str(word), KINDS)), str(word))

    def test_read_is_putting_together(self):
        for row in itertools.product(["a", "~a", "s", "~m", "(1,0)", "()"], repeat=3):
            word = Word.same()
            for part in row:
                word = word >> {"a": A, "~a": ~A, "s": S, "~m": M, "(1,0)": C, "()": Word.same()}[part]
            self.assertEqual(Word.read(" ".join(row), KINDS), word)

    def test_read_what_is_not_in_the_one_form(self):
        self.assertEqual(str(Word.read("() a () () (4,2)(3,1)(0) ~s (6)", KINDS)), "a (1,3)(2,4) s")
        self.assertEqual(Word.read("()", {}), Word.same())
        self.assertEqual(Word.read("(0)", {}), Word.same())
        self.assertEqual(Word.read("(2,0,1)", {}), Word.known([[0, 1, 2]]))

    def test_read_kinds(self):
        self.assertEqual(Word.read("t", {"t": "swaps 10"}), Word.hole("t", "swaps", most=10))
        self.assertEqual(Word.read("m s", KINDS), M >> S)
        self.assertEqual(Word.read("b", KINDS).kinds, {"b": "wire"})

    def test_read_keeps_nothing_of_kinds(self):
        kinds = {"b": "swaps", "a": "wire"}
        word = Word.read("a (0,1) b", kinds)
        self.assertEqual(list(kinds.items()), [("b", "swaps"), ("a", "wire")])
        kinds["a"] = "mirror"
        del kinds["b"]
        self.assertEqual(word.kinds, {"a": "wire", "b": "swaps"})
        self.assertEqual(~~word, word)

    def test_read_large_places(self):
        self.assertEqual(Word.read("(999,0) a (999,998)", KINDS).named, [0, 998, 999])

    def test_no_part(self):
        for part in [
            "", "x", "ab", "A", "~", "~~a", "~()", "~(0,1)", "~x", "a~", "-a", "a,b", "(", ")", ")(", "(,)", "(0,)",
            "(,0)", "(0,,1)", "(00)", "(01,2)", "(0,01)", "(-1,0)", "(+1,0)", "(0,0)", "(0)(0)", "(0,1)(1,2)",
            "(0,1,0)", "()(0,1)", "(0,1)()", "()()", "(0,1)(2", "(0,1)2)", "0,1", "(0,1", "((0,1))", "(a)", "(0,1)a",
            "a(0,1)", "(0;1)", "(0,1)\n", "\n", "a\n", "\na", "(1_0,2)", "(0.1)", "[0,1]", "{a}", "wire",
        ]:
            for text, index in [(part, 0), (f"a {part}", 1), (f"() (0,1) {part} a", 2), (f"b ~a s {part} {part}", 3)]:
                with self.subTest(text=text):
                    self.raises(NoPart, "part", index, Word.read, text, KINDS)

    def test_no_part_for_spaces(self):
        for text, index in [("", 0), (" ", 0), (" a", 0), ("a ", 1), ("a  b", 1), ("(0, 1)", 0), ("a (0 ,1)", 1),
                            ("~ a", 0), ("() ", 1)]:
            self.raises(NoPart, "part", index, Word.read, text, KINDS)

    def test_no_part_for_a_name_that_is_not_in_kinds(self):
        self.raises(NoPart, "part", 0, Word.read, "a", {})
        self.raises(NoPart, "part", 2, Word.read, "a b ~c", {"a": "wire", "b": "mirror"})

    def test_no_part_tells_the_first_one_whatever_the_numbers(self):
        many = "9" * 5000
        self.raises(NoPart, "part", 1, Word.read, f"(0,{many}) (0,0)", {})
        self.raises(NoPart, "part", 0, Word.read, f"({many},{many})", {})
        self.raises(NoPart, "part", 0, Word.read, f"(0,0{many}) (0,0)", {})


class FilledTest(Raising):
    """Point 10."""

    def test_all_fillings_of_small_words(self):
        for text in ("a", "~a", "s", "t", "m", "a (0,1) ~a", "(0,2,1) a a", "~a ~b a b", "s a (1,2) s", "m (0,1) ~a m",
                     "t a t (0,2)"):
            word = Word.read(text, KINDS)
            for size in range(1, 5):
                if not all(size > place for place in word.named) or "m" in word.holes and size % 2:
                    self.raises(NoSize, "size", size, word.filled, size, {})
                    continue
                for wires in fillings(size, word.kinds)[::3]:
                    self.assertEqual(word.filled(size, wires).images(), led(text.split(), KINDS, size, wires))

    def test_wires_without_holes(self):
        self.assertEqual(str(D.filled(6, {})), "6 (1,2)(3,4)")
        self.assertEqual(str(Word.same().filled(1, {})), "1 ()")

    def test_no_size(self):
        for word, sizes in [
            (Word.same(), [0, -1, -10 ** 59]),
            (A, [0, -5]),
            (C, [0, 1, -1]),
            (D, [1, 2, 3, 4]),
            (M, [0, 1, 3, 59, -2]),
            (M >> Word.known([[4, 0]]), [2, 4, 5, 7]),
        ]:
            for size in sizes:
                self.raises(NoSize, "size", size, word.filled, size, {})

    def test_sizes_that_fit(self):
        wire = Wire(6, [[0, 1], [2, 3], [4, 5]])
        self.assertEqual((M >> Word.known([[4, 0]])).filled(6, {"m": wire}), wire >> Wire(6, [[0, 4]]))
        self.assertEqual(C.filled(2, {}), Wire(2, [[0, 1]]))
        self.assertEqual(S.filled(3, {"s": Wire(3, [])}), Wire(3, []))
        self.assertEqual((M >> C >> C >> M).filled(1, {}), Wire(1, []))
        self.assertEqual(A.filled(60, {"a": Wire(60, [[0, 59]])}), Wire(60, [[0, 59]]))

    def test_unfilled(self):
        self.raises(Unfilled, "name", "a", A.filled, 2, {})
        self.raises(Unfilled, "name", "b", (B >> A).filled, 2, {"a": Wire(2, []), "c": Wire(2, [])})

    def test_wrong_size(self):
        self.raises(WrongSize, "size", 3, A.filled, 2, {"a": Wire(3, [])})
        self.raises(WrongSize, "size", 1, (A >> B).filled, 2, {"a": Wire(2, []), "b": Wire(1, [])})

    def test_wrong_kind(self):
        ring = Wire(4, [[0, 1, 2]])
        self.raises(WrongKind, "name", "s", S.filled, 4, {"s": ring})
        self.raises(WrongKind, "name", "s", S.filled, 4, {"s": Wire(4, [[0, 1, 2, 3]])})
        self.raises(WrongKind, "name", "m", M.filled, 4, {"m": ring})
        self.raises(WrongKind, "name", "m", M.filled, 4, {"m": Wire(4, [[0, 1]])})
        self.raises(WrongKind, "name", "m", M.filled, 2, {"m": Wire(2, [])})
        self.raises(WrongKind, "name", "m", M.filled, 4, {"m": Wire(4, [[0, 1, 2, 3]])})

    def test_wrong_kind_for_too_many_pairs(self):
        for pairs, most in itertools.product(range(5), repeat=2):
            wire = Wire(9, [[place, place + 4] for place in range(pairs)])
            word = Word.hole("s", "swaps", most=most)
            if pairs > most:
                self.raises(WrongKind, "name", "s", word.filled, 9, {"s": wire})
            else:
                self.assertEqual(word.filled(9, {"s": wire}), wire)
            self.assertEqual(S.filled(9, {"s": wire}), wire)
        self.raises(WrongKind, "name", "s", Word.hole("s", "swaps", most=9).filled, 3, {"s": Wire(3, [[0, 1, 2]])})

    def test_large_bounds(self):
        word = Word.hole("s", "swaps", most=10 ** 59)
        self.assertEqual(word.filled(2, {"s": Wire(2, [[0, 1]])}), Wire(2, [[0, 1]]))

    def test_order_of_errors(self):
        word = M >> S >> A
        fine = {"a": Wire(4, []), "m": Wire(4, [[0, 1], [2, 3]]), "s": Wire(4, [])}
        self.raises(NoSize, "size", 3, word.filled, 3, {})
        self.raises(Unfilled, "name", "a", word.filled, 4, {"m": Wire(4, []), "s": Wire(3, [])})
        self.raises(WrongSize, "size", 5, word.filled, 4, {"a": Wire(5, []), "m": Wire(4, [])})
        self.raises(WrongKind, "name", "m", word.filled, 4, {"a": fine["a"], "m": Wire(4, []), "s": Wire(2, [])})
        self.raises(WrongKind, "name", "m", word.filled, 4, {"a": fine["a"], "m": Wire(4, [])})
        self.raises(WrongSize, "size", 2, word.filled, 4, {**fine, "m": Wire(2, [])})
        self.raises(WrongSize, "size", 2, word.filled, 4, {**fine, "s": Wire(2, [])})
        self.assertEqual(word.filled(4, fine), fine["m"])

    def test_wires_for_other_names_are_ignored(self):
        wires = {"x": Wire(9, []), "a": Wire(3, [[0, 2]]), "m": Wire(1, [])}
        self.assertEqual(A.filled(3, wires), Wire(3, [[0, 2]]))
        self.assertEqual((A >> M >> M).filled(3, wires), Wire(3, [[0, 2]]))

    def test_wires_are_not_modified(self):
        wires = {"b": Wire(3, []), "a": Wire(3, [[0, 2, 1]])}
        self.assertEqual((~A >> C).filled(3, wires), Wire(3, [[0, 1, 2]]) >> Wire(3, [[0, 1]]))
        self.assertEqual([(name, str(wire)) for name, wire in wires.items()], [("b", "3 ()"), ("a", "3 (0,2,1)")])


class InterfaceTest(unittest.TestCase):
    def test_example(self):
        a = Word.hole("a")
        c = Word.known([[0, 1]])
        self.assertEqual([str(c >> c.under(a)), str(a >> c >> c >> ~a), str((c >> a).times(-1)), len(c.under(a) ** 3)],
                         ["(0,1) ~a (0,1) a", "()", "~a (0,1)", 2])

    def test_most_is_passed_by_its_name(self):
        with self.assertRaises(TypeError):
            Word.hole("a", "swaps", 2)

    def test_methods_stand_in_the_class(self):
        names = ["hole", "known", "same", "read", "times", "under", "filled", "holes", "kinds", "named", "__eq__",
                 "__str__", "__len__", "__rshift__", "__invert__", "__pow__"]
        self.assertEqual([name for name in names if name not in vars(Word)], [])
        self.assertEqual(Word.__module__, "turnwires.words")
        for name in ("hole", "known", "same", "read"):
            self.assertIsInstance(vars(Word)[name], staticmethod)
        for name in ("holes", "kinds", "named"):
            self.assertIsInstance(vars(Word)[name], property)

    def test_a_word_of_100_parts(self):
        text = " ".join(["a", "(0,1)", "~b", "s"] * 25)
        word = Word.read(text, KINDS)
        self.assertEqual([str(word), len(word), word.holes], [text, 75, ["a", "b", "s"]])
        self.assertEqual(word >> ~word, Word.same())


if __name__ == "__main__":
    unittest.main()
