"""Point 1 and the interface: the errors and their fields."""

import unittest

from eventours import errors

PLAIN = ("BadHall", "BadWay", "BadLot", "NotEven", "NoWay", "NoStep", "BadText")


class ErrorsTest(unittest.TestCase):
    def test_base_class(self):
        self.assertEqual(errors.TourError.__bases__, (ValueError,))

    def test_direct_subclasses(self):
        for name in PLAIN + ("BadNet", "TooMany", "BadLine"):
            with self.subTest(name=name):
                found = getattr(errors, name)
                self.assertEqual(found.__bases__, (errors.TourError,))
                self.assertEqual(found.__module__, "eventours.errors")

    def test_without_fields(self):
        for name in PLAIN:
            with self.subTest(name=name):
                self.assertEqual(vars(getattr(errors, name)()), {})

    def test_fields(self):
        self.assertEqual(vars(errors.BadNet("halls")), {"part": "halls"})
        self.assertEqual(vars(errors.TooMany(18)), {"most": 18})
        self.assertEqual(vars(errors.BadLine(2, 5)), {"line": 2, "word": 5})

    def test_fields_by_name(self):
        self.assertEqual(errors.BadNet(part="ways").part, "ways")
        self.assertEqual(errors.TooMany(most=4096).most, 4096)
        error = errors.BadLine(word=1, line=3)
        self.assertEqual((error.line, error.word), (3, 1))


if __name__ == "__main__":
    unittest.main()
