"""Point 1: what holds of the whole package."""

import ast
import copy
import pathlib
import unittest

from eventours.nets import degrees, is_even, is_net, pieces
from eventours.rings import all_odd, counts, rings, rings_through

from support import BOW, FOUR, SCATTERED, raised

FOLDER = pathlib.Path(__file__).resolve().parent.parent / "eventours"
LIBRARY = ("heapq", "math", "itertools", "collections", "__future__")
REACHING_OUT = ("open", "input", "print", "exec", "eval", "__import__", "hash", "id")
OF_A_NET = (is_net, degrees, is_even, pieces, rings, counts, all_odd)


def trees():
    return [ast.parse(path.read_text("utf-8")) for path in sorted(FOLDER.glob("**/*.py"))]


class PackageTest(unittest.TestCase):
    def test_imports_nothing_from_outside(self):
        for tree in trees():
            for node in ast.walk(tree):
                self.assertNotIsInstance(node, ast.Import)
                if isinstance(node, ast.ImportFrom):
                    self.assertEqual(node.level, 0)
                    first = node.module.split(".")[0]
                    self.assertIn(first, LIBRARY + ("eventours",))

    def test_names_no_file_nor_terminal(self):
        for tree in trees():
            for node in ast.walk(tree):
                if isinstance(node, ast.Name):
                    self.assertNotIn(node.id, REACHING_OUT)

    def test_interface_is_defined_in_its_files(self):
        for function in (is_net, degrees, is_even, pieces):
            self.assertEqual(function.__module__, "eventours.nets")
        for function in (rings, counts, rings_through, all_odd):
            self.assertEqual(function.__module__, "eventours.rings")

    def test_arguments_are_not_modified(self):
        values = (BOW, [3, [[0, 1]]], (3, [[1, 0], [0, 1]]), (3, ([1, 0],)), {"a": [2, 1]}, ({1: [0]}, ()))
        for value in values:
            kept = copy.deepcopy(value)
            for function in OF_A_NET:
                raised(function, value)
            raised(rings_through, value, (0, 1))
            raised(rings_through, BOW, value)
            self.assertEqual(value, kept)

    def test_equal_arguments_have_equal_answers(self):
        for net in (BOW, FOUR, SCATTERED):
            for function in OF_A_NET:
                self.assertEqual(function(net), function(copy.deepcopy(net)))
            for way in net[1]:
                self.assertEqual(rings_through(net, way), rings_through(net, way))

    def test_kinds_of_answers(self):
        for function in (degrees, pieces, rings, counts):
            self.assertIs(type(function(BOW)), tuple)
        for function in (is_net, is_even, all_odd):
            self.assertIs(type(function(BOW)), bool)
        self.assertIs(type(rings_through(BOW, (0, 1))), tuple)
        for row in pieces(SCATTERED) + rings(BOW) + rings_through(BOW, (0, 1)):
            self.assertIs(type(row), tuple)

    def test_deeply_nested_values(self):
        deep = ()
        for _ in range(500):
            deep = (deep, ())
        self.assertIs(is_net(deep), False)
        self.assertEqual(raised(rings, deep), ("BadNet", {"part": "halls"}))
        self.assertEqual(raised(rings_through, BOW, deep), ("BadWay", {}))


if __name__ == "__main__":
    unittest.main()
