"""The interface as a whole, and what point 1 says of the whole program."""

import ast
import doctest
import importlib
import inspect
import os
import types
import unittest

import turnwires
from turnwires.errors import WireError
from turnwires.quotients import Quot
from turnwires.wires import Wire
from turnwires.words import Word

FOLDER = os.path.dirname(turnwires.__file__)
ERRORS = {
    "NoSize": ["size"], "NoRing": ["index"], "NoPlace": ["place"], "WrongSize": ["size"], "NoText": ["text"],
    "NoName": ["name"], "NoKind": ["kind"], "NoMost": ["most"], "TwoKinds": ["name"], "NoPart": ["part"],
    "Unfilled": ["name"], "WrongKind": ["name"], "NoQuot": [], "NoValue": ["n"], "NoShare": ["name"],
    "NoSighting": ["k"], "NoHalves": ["length"],
}
FUNCTIONS = {
    "ways": {"ways": "(word, start)"},
    "comparing": {"alike": "(p, q)", "alike_at": "(p, q, size)", "parting": "(p, q)", "comes": "(word, start)"},
    "shares": {"share": "(word, start, end)", "meeting": "(one, other, start)", "mean": "(word)",
               "reach": "(word, numbers=())", "reach_of": "(words, numbers=())"},
    "lengths": {"lengths": "(word)", "order": "(word)"},
    "halves": {"halves": "(wire, kind)", "many_halves": "(wire, kind)"},
}
CLASSES = {
    ("wires", "Wire"): {
        "__init__": "(self, size, rings)", "images": "(self)", "rings": "(self)", "times": "(self, k)",
        "order": "(self)", "is_swaps": "(self)", "is_mirror": "(self)", "read": "(text)",
        **{name: None for name in ("__getitem__", "__eq__", "__str__", "__rshift__", "__invert__", "__pow__")},
    },
    ("words", "Word"): {
        "hole": "(name, kind='wire', *, most=None)", "known": "(rings)", "same": "()", "read": "(text, kinds)",
        "times": "(self, k)", "under": "(self, q)", "filled": "(self, size, wires)",
        "holes": None, "kinds": None, "named": None,
        **{name: None for name in ("__len__", "__eq__", "__str__", "__rshift__", "__invert__", "__pow__")},
    },
    ("ways", "Way"): {},
    ("comparing", "Parting"): {},
    ("quotients", "Quot"): {
        "__init__": "(self, top, bottom=(1,))", "over": "(self, other)", "at": "(self, n)", "read": "(text)",
        **{name: None for name in ("__add__", "__radd__", "__sub__", "__rsub__", "__mul__", "__rmul__", "__neg__",
                                   "__eq__", "__str__")},
    },
    ("books", "Book"): {
        "__init__": "(self)", "saw": "(self, word, start, end)", "forget": "(self, k)", "least": "(self)",
        "many": "(self, size)", "fits": "(self, size)", "share": "(self)", "reach": "(self)",
        "sure": "(self, word, start, size=None)", "core": "(self)", "guessed": "(self, word, start, end, work)",
        "__len__": None, "__getitem__": None,
    },
}
EXAMPLES = """
>>> from turnwires.wires import Wire
>>> a = Wire(4, [[0, 1, 2]])
>>> [a[2], str(a >> Wire(4, [[2, 3]])), str(~a), a.order()]
[0, '4 (0,1,3,2)', '4 (0,2,1)', 3]

>>> from turnwires.words import Word
>>> a = Word.hole("a")
>>> c = Word.known([[0, 1]])
>>> [str(c >> c.under(a)), str(a >> c >> c >> ~a), str((c >> a).times(-1)), len(c.under(a) ** 3)]
['(0,1) ~a (0,1) a', '()', '~a (0,1)', 2]

>>> from turnwires.ways import ways
>>> from turnwires.words import Word
>>> a = Word.hole("a")
>>> [(way.end, way.size, way.fixed) for way in ways(a >> a, 0)]
[(0, 1, {'a': [(0, 0)]}), (0, 2, {'a': [(0, 1), (1, 0)]}), (2, 3, {'a': [(0, 1), (1, 2)]})]

>>> from turnwires.comparing import alike, comes, parting
>>> from turnwires.words import Word
>>> a = Word.hole("a")
>>> c = Word.known([[0, 1]])
>>> m = Word.hole("m", "mirror")
>>> [alike((c >> c.under(a)) ** 6, Word.same()), parting(a ** 6, Word.same()).size, comes(m.under(a), 0)]
[True, 4, [(None, 2)]]

>>> from turnwires.quotients import Quot
>>> q = Quot([0, 1], [-1, 1])
>>> [str(q), q.at(5), str(q - 1), q.over(q) == 1]
['(n)/(n - 1)', (5, 4), '(1)/(n - 1)', True]

>>> from turnwires.shares import mean, share
>>> from turnwires.words import Word
>>> a = Word.hole("a")
>>> b = Word.hole("b")
>>> [str(share(a, 0, 1)), str(mean(a ** 4)), str(mean(~a >> ~b >> a >> b))]
['(1)/(n)', '3', '(n)/(n - 1)']

>>> from turnwires.lengths import lengths, order
>>> from turnwires.words import Word
>>> c = Word.known([[0, 1]])
>>> [lengths(c >> c.under(Word.hole("a"))), order(c >> c.under(Word.hole("a"))), lengths(Word.hole("a"))]
[[(1, 2), (2, 4), (3, 3)], 6, None]

>>> from turnwires.books import Book
>>> from turnwires.words import Word
>>> a = Word.hole("a")
>>> book = Book()
>>> book.saw(a, 0, 1)
>>> book.saw(a >> a, 0, 0)
>>> [book.least(), book.many(4), book.sure(a, 1), str(book.share())]
[2, 2, 0, '(1)/(n^2 - n)']
>>> book.saw(a, 1, 1)
>>> [book.least(), book.core()]
[None, [0, 2]]

>>> from turnwires.halves import halves, many_halves
>>> from turnwires.wires import Wire
>>> wire = Wire(4, [[0, 1], [2, 3]])
>>> [many_halves(wire, "swaps"), [(str(x), str(y)) for x, y in halves(wire, "mirror")]]
[6, [('4 (0,2)(1,3)', '4 (0,3)(1,2)'), ('4 (0,3)(1,2)', '4 (0,2)(1,3)')]]
"""


def module_of(name):
    return importlib.import_module("turnwires." + name)


class InterfaceTest(unittest.TestCase):
    def test_examples(self):
        test = doctest.DocTestParser().get_doctest(EXAMPLES, {}, "interface", None, 0)
        runner = doctest.DocTestRunner()
        runner.run(test)
        self.assertEqual(runner.summarize(verbose=False), (0, len(test.examples)))
        self.assertGreater(len(test.examples), 40)

    def test_errors(self):
        errors = module_of("errors")
        self.assertEqual(WireError.__bases__, (ValueError,))
        for name, attributes in ERRORS.items():
            error = getattr(errors, name)
            self.assertEqual([error.__bases__, error.__module__], [(WireError,), "turnwires.errors"])
            for values in ([1] * len(attributes), [None] * len(attributes), [[self]] * len(attributes)):
                found = error(*values)
                self.assertEqual([getattr(found, attribute) for attribute in attributes], values)

    def test_functions(self):
        for module, functions in FUNCTIONS.items():
            for name, signature in functions.items():
                function = getattr(module_of(module), name)
                self.assertEqual(function.__module__, "turnwires." + module)
                self.assertEqual(str(inspect.signature(function)), signature)

    def test_classes(self):
        for (module, name), methods in CLASSES.items():
            found = getattr(module_of(module), name)
            self.assertEqual(found.__module__, "turnwires." + module)
            for method, signature in methods.items():
                with self.subTest(name=name, method=method):
                    self.assertIn(method, vars(found))
                    if signature is not None:
                        self.assertEqual(str(inspect.signature(getattr(found, method))), signature)

    def test_static_methods_and_properties(self):
        for found, name in [(Wire, "read"), (Word, "hole"), (Word, "known"), (Word, "same"), (Word, "read"),
                            (Quot, "read")]:
            self.assertIsInstance(vars(found)[name], staticmethod)
        for name in ("holes", "kinds", "named"):
            self.assertIsInstance(vars(Word)[name], property)

    def test_ways_is_a_generator(self):
        self.assertIsInstance(module_of("ways").ways(Word.hole("a"), 0), types.GeneratorType)


class WholeProgramTest(unittest.TestCase):
    """Point 1."""

    def trees(self):
        for name in sorted(os.listdir(FOLDER)):
            if name.endswith(".py"):
                with open(os.path.join(FOLDER, name), encoding="utf-8") as file:
                    yield name, ast.parse(file.read())

    def test_no_clock_no_random_numbers_and_no_files(self):
        for name, tree in self.trees():
            for node in ast.walk(tree):
                if isinstance(node, ast.ImportFrom):
                    self.assertIn(node.module.split(".")[0], ("turnwires", "math", "itertools"), name)
                self.assertNotIsInstance(node, ast.Import, name)
                if isinstance(node, ast.Name):
                    self.assertNotIn(node.id, ("open", "input", "print", "exec", "eval", "hash", "id"), name)

    def test_all_arithmetic_is_exact(self):
        for name, tree in self.trees():
            for node in ast.walk(tree):
                self.assertFalse(isinstance(node, ast.Constant) and isinstance(node.value, float), name)
                self.assertNotIsInstance(node, ast.Div, name)

    def test_not_equal_is_the_opposite_of_equal(self):
        for one, other in [(Wire(2, []), Wire(2, [])), (Wire(2, []), Wire(3, [])), (Word.hole("a"), Word.hole("a")),
                           (Word.hole("a"), Word.hole("b")), (Quot([1]), Quot([2], [2])), (Quot([1]), 1),
                           (Quot([1]), 2),
                           (Word.same(), Wire(1, [])), (Quot([1]), "1"), (Wire(1, []), None)]:
            self.assertIs(one != other, not one == other)
            self.assertIs(other != one, not other == one)

    def test_later_changes_of_what_was_passed_have_no_effect(self):
        rings, kinds, top = [[0, 1], [2, 3]], {"a": "wire", "m": "mirror"}, [0, 1]
        wire, known, quotient, word = Wire(4, rings), Word.known(rings), Quot(top), Word.read("a (0,1) m", kinds)
        rings[0].append(2)
        rings.clear()
        kinds.clear()
        top.append(5)
        self.assertEqual([str(wire), str(known), str(quotient), str(word)],
                         ["4 (0,1)(2,3)", "(0,1)(2,3)", "n", "a (0,1) m"])
        self.assertEqual(word.kinds, {"a": "wire", "m": "mirror"})


if __name__ == "__main__":
    unittest.main()
