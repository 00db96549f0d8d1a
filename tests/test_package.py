"""Point 1: what holds of the whole package."""

import ast
import copy
import doctest
import pathlib
import unittest

from eventours.evenlots import (
    count_even_lots, even_by, even_lots, forest, is_even_lot, outside, summed,
)
from eventours.nets import degrees, is_even, is_net, pieces
from eventours.nettexts import read_net, write_net
from eventours.partings import count_partings, fewest_rings, parting, shows_parting
from eventours.rings import all_odd, counts, rings, rings_through
from eventours.tours import has_tour, shows_tour, tour
from eventours.trails import paths, trails, turned
from eventours.walkers import Walker

from support import BOW, FOUR, SCATTERED, raised

TOP = pathlib.Path(__file__).resolve().parent.parent
FOLDER = TOP / "eventours"
LIBRARY = ("heapq", "math", "itertools", "collections", "__future__")
REACHING_OUT = ("open", "input", "print", "exec", "eval", "__import__", "hash", "id")
INTERFACE = {
    "nets": (is_net, degrees, is_even, pieces),
    "rings": (rings, counts, rings_through, all_odd),
    "partings": (parting, shows_parting, count_partings, fewest_rings),
    "trails": (trails, paths, turned),
    "evenlots": (is_even_lot, summed, forest, outside, even_by, even_lots, count_even_lots),
    "tours": (has_tour, tour, shows_tour),
    "nettexts": (write_net, read_net),
}
METHODS = {"walkers": ("Walker", ("__init__", "go", "undo", "missing", "path", "gone"))}
# By the kinds of their arguments, and with arguments that are right for BOW.
CALLS = (
    [(function, (BOW,)) for function in (
        is_net, degrees, is_even, pieces, rings, counts, all_odd, parting, count_partings,
        fewest_rings, forest, even_lots, count_even_lots, has_tour, tour, write_net,
    )]
    + [(function, (BOW, (0, 1))) for function in (rings_through, trails, paths)]
    + [(function, (BOW, ((0, 1), (1, 2)))) for function in (is_even_lot, outside, even_by)]
    + [
        (shows_parting, (BOW, ((0, 1, 2), (0, 3, 4)))),
        (shows_tour, (BOW, (0, 1, 2, 0, 3, 4, 0))),
        (read_net, ("halls 5\nways 01 02 03 04 12 34",)),
        (turned, (BOW, (0, 1), (0, 3, 4, 0, 2, 1))),
        (summed, (BOW, ((0, 1), (1, 2)), ((0, 2), (1, 2)))),
    ]
)
# Not TooMany, as none of the nets is large, nor NoStep, as undo takes no argument.
NAMED_ERRORS = ("BadNet", "BadHall", "BadWay", "BadLot", "NotEven", "NoWay", "BadText", "BadLine")
# Of each kind, also with lists and dicts within, which could be modified.
VALUES = (
    BOW, FOUR, SCATTERED, 0, -3, 10 ** 30, "", "net", "0 1", True, False, None, (), [], {},
    [3, [[0, 1]]], (3, [[1, 0], [0, 1]]), (3, ([1, 0],)), {"a": [2, 1]}, ({1: [0]}, ()),
    (0, 1), (0, 2, 1), ((0, 1),), [(0, 1), (0, 2)], ([0, 1],), ((0, 1), [0, 2]), ([0, 2, 1], (3,)),
    ((0, 1, 2), [3, 4]), {(0, 1): [0]}, ((None,), {"b": {}}), ((2, 1), (0, 1)), (True, False, (None, "")),
)


def walk(net, hall, onward):
    """What a walker tells who goes to one hall."""
    walker = Walker(net, hall)
    walker.go(onward)
    return walker.path, walker.gone, walker.missing()


def calls_with_each_value():
    """All calls with one argument, or all, replaced by each of the values."""
    calls = []
    for function, arguments in CALLS + [(walk, (BOW, 0, 1))]:
        for value in VALUES:
            calls.append((function, (value,) * len(arguments)))
            for at in range(len(arguments)):
                calls.append((function, arguments[:at] + (value,) + arguments[at + 1:]))
    return calls


def outcome(function, arguments):
    """The answer of a call and the error that it raises."""
    error = raised(function, *arguments)
    return (None if error else function(*arguments)), error


def trees():
    return [ast.parse(path.read_text("utf-8")) for path in sorted(FOLDER.glob("**/*.py"))]


class PackageTest(unittest.TestCase):
    def test_imports_nothing_from_outside(self):
        for tree in trees():
            for node in ast.walk(tree):
                self.assertNotIsInstance(node, ast.Import)
                if isinstance(node, ast.ImportFrom):
                    self.assertEqual(node.level, 0)
                    first = node.module.split(".")[0]
                    self.assertIn(first, LIBRARY + ("eventours",))

    def test_names_no_file_nor_terminal(self):
        for tree in trees():
            for node in ast.walk(tree):
                if isinstance(node, ast.Name):
                    self.assertNotIn(node.id, REACHING_OUT)

    def test_interface_is_defined_in_its_files(self):
        for name, functions in INTERFACE.items():
            tree = ast.parse((FOLDER / f"{name}.py").read_text("utf-8"))
            defined = [node.name for node in tree.body if isinstance(node, ast.FunctionDef)]
            for function in functions:
                self.assertIn(function.__name__, defined)

    def test_methods_are_defined_in_their_classes(self):
        for name, (told, methods) in METHODS.items():
            tree = ast.parse((FOLDER / f"{name}.py").read_text("utf-8"))
            bodies = [node.body for node in tree.body if isinstance(node, ast.ClassDef) and node.name == told]
            self.assertEqual(len(bodies), 1)
            defined = [node.name for node in bodies[0] if isinstance(node, ast.FunctionDef)]
            for method in methods:
                self.assertIn(method, defined)

    def test_properties(self):
        for name in ("path", "gone"):
            self.assertIsInstance(vars(Walker)[name], property)

    def test_each_function_is_called(self):
        told = sorted(function.__name__ for functions in INTERFACE.values() for function in functions)
        self.assertEqual(sorted(function.__name__ for function, _ in CALLS), told)

    def test_arguments_are_not_modified(self):
        for function, arguments in calls_with_each_value():
            kept = copy.deepcopy(arguments)
            raised(function, *arguments)
            self.assertEqual(arguments, kept, function.__name__)

    def test_equal_arguments_have_equal_answers(self):
        for function, arguments in calls_with_each_value():
            told = outcome(function, arguments)
            self.assertEqual(outcome(function, copy.deepcopy(arguments)), told, function.__name__)

    def test_any_value_may_be_passed(self):
        for function, arguments in calls_with_each_value():
            error = raised(function, *arguments)
            if error is not None:
                self.assertIn(error[0], NAMED_ERRORS, (function.__name__, arguments))

    def test_what_shows_answers(self):
        for value in VALUES:
            for net in (BOW, FOUR, SCATTERED, (1, ())):
                self.assertIs(type(shows_parting(net, value)), bool, (net, value))
                self.assertIs(type(shows_tour(net, value)), bool, (net, value))

    def test_kinds_of_answers(self):
        numbers = (count_partings, fewest_rings, count_even_lots)
        truths = (is_net, is_even, all_odd, shows_parting, is_even_lot, has_tour, shows_tour)
        kinds = {write_net: str} | {function: int for function in numbers}
        kinds |= {function: bool for function in truths}
        for function, arguments in CALLS:
            kind = kinds.get(function, tuple)
            self.assertIs(type(function(*arguments)), kind, function.__name__)
        self.assertIs(type(count_partings(FOUR)), int)

    def test_rows_of_answers(self):
        for function in (pieces, rings, parting, forest, even_lots):
            for row in function(BOW):
                self.assertIs(type(row), tuple, function.__name__)
        for function in (rings_through, trails, paths):
            for row in function(BOW, (0, 1)):
                self.assertIs(type(row), tuple, function.__name__)

    def test_deeply_nested_values(self):
        deep = ()
        for _ in range(500):
            deep = (deep, ())
        self.assertIs(is_net(deep), False)
        self.assertEqual(raised(rings, deep), ("BadNet", {"part": "halls"}))
        self.assertEqual(raised(rings_through, BOW, deep), ("BadWay", {}))
        self.assertEqual(raised(outside, BOW, deep), ("BadLot", {}))
        self.assertEqual(raised(Walker, BOW, deep), ("BadHall", {}))
        self.assertEqual(raised(Walker(BOW, 0).go, deep), ("BadHall", {}))
        self.assertEqual(raised(read_net, deep), ("BadText", {}))
        for value in (deep, (deep,), ((0, 1, deep), (0, 3, 4)), (0, deep, 1)):
            self.assertIs(shows_parting(BOW, value), False)
            self.assertIs(shows_tour(BOW, value), False)
            self.assertIs(turned(BOW, (0, 1), value), None)

    def test_readme(self):
        found = doctest.testfile(str(TOP / "README.md"), module_relative=False)
        self.assertGreater(found.attempted, 5)
        self.assertEqual(found.failed, 0)


if __name__ == "__main__":
    unittest.main()
