"""Point 8: walkers."""

import unittest

from eventours.walkers import Walker

from support import BOW, FOUR, TAILED, TRIANGLE, WRONG_NETS, full_net, raised

WRONG_HALLS_OF_FIVE = (
    5, 9, -1, -5, 10 ** 30, -(10 ** 30), True, False, None, "", "0", (), (0,), ((0, 1),), [], [0],
    {}, {0: 1}, (0, 1),
)


class StandCase(unittest.TestCase):
    def check_stand(self, walker, path, gone, missing):
        self.assertEqual((walker.path, walker.gone, walker.missing()), (path, gone, missing))
        self.assertIs(type(walker.path), tuple)
        self.assertIs(type(walker.gone), tuple)
        self.assertIs(type(walker.missing()), int)

    def check_error(self, call, arguments, name, walker):
        """Check that a call raises an error without fields and that the walker stays."""
        stand = (walker.path, walker.gone, walker.missing())
        self.assertEqual(raised(call, *arguments), (name, {}), arguments)
        self.check_stand(walker, *stand)


class WalkTest(StandCase):
    def test_example(self):
        walker = Walker((3, ((0, 1), (0, 2), (1, 2))), 1)
        self.assertIsNone(walker.go(2))
        self.assertIsNone(walker.go(0))
        self.check_stand(walker, (1, 2, 0), ((1, 2), (0, 2)), 1)
        self.assertIsNone(walker.undo())
        self.assertEqual(walker.path, (1, 2))

    def test_example_without_a_way(self):
        self.assertEqual(raised(Walker((3, ((0, 1), (0, 2))), 1).go, 2), ("NoWay", {}))

    def test_start(self):
        for hall in range(5):
            self.check_stand(Walker(BOW, hall), (hall,), (), 6)
        self.check_stand(Walker((1, ()), 0), (0,), (), 0)
        self.check_stand(Walker((9, ()), 8), (8,), (), 0)

    def test_each_step(self):
        walker = Walker(BOW, 3)
        walker.go(0)
        self.check_stand(walker, (3, 0), ((0, 3),), 5)
        walker.go(2)
        self.check_stand(walker, (3, 0, 2), ((0, 3), (0, 2)), 4)
        walker.go(1)
        self.check_stand(walker, (3, 0, 2, 1), ((0, 3), (0, 2), (1, 2)), 3)
        walker.go(0)
        self.check_stand(walker, (3, 0, 2, 1, 0), ((0, 3), (0, 2), (1, 2), (0, 1)), 2)
        walker.go(4)
        walker.go(3)
        gone = ((0, 3), (0, 2), (1, 2), (0, 1), (0, 4), (3, 4))
        self.check_stand(walker, (3, 0, 2, 1, 0, 4, 3), gone, 0)

    def test_undo_back_to_the_start(self):
        walker = Walker(TAILED, 4)
        for hall in (3, 2, 0, 1, 2):
            walker.go(hall)
        self.check_stand(walker, (4, 3, 2, 0, 1, 2), ((3, 4), (2, 3), (0, 2), (0, 1), (1, 2)), 0)
        self.assertIsNone(walker.undo())
        self.check_stand(walker, (4, 3, 2, 0, 1), ((3, 4), (2, 3), (0, 2), (0, 1)), 1)
        for many in (3, 2, 1, 0):
            walker.undo()
            self.assertEqual(walker.missing(), 5 - many)
        self.check_stand(walker, (4,), (), 5)
        self.check_error(walker.undo, (), "NoStep", walker)
        self.check_error(walker.undo, (), "NoStep", walker)
        walker.go(3)
        self.check_stand(walker, (4, 3), ((3, 4),), 4)

    def test_way_taken_back_may_be_gone_again(self):
        walker = Walker(TRIANGLE, 0)
        walker.go(1)
        walker.undo()
        walker.go(1)
        self.check_stand(walker, (0, 1), ((0, 1),), 2)
        walker.go(2)
        walker.undo()
        walker.undo()
        walker.go(2)
        walker.go(1)
        walker.go(0)
        self.check_stand(walker, (0, 2, 1, 0), ((0, 2), (1, 2), (0, 1)), 0)

    def test_all_ways_of_nine_halls(self):
        walker = Walker(full_net(9), 0)
        for by in (1, 2, 4):
            # Round all nine halls, as these numbers have no divisor with nine in common.
            for at in range(1, 10):
                walker.go(at * by % 9)
        self.assertEqual((walker.path[-1], walker.missing()), (0, 9))
        self.assertEqual(len(set(walker.gone)), 27)
        for many in range(27):
            walker.undo()
            self.assertEqual(walker.missing(), 10 + many)
        self.check_stand(walker, (0,), (), 36)

    def test_what_was_read_stays(self):
        walker = Walker(BOW, 0)
        walker.go(1)
        path, gone = walker.path, walker.gone
        walker.go(2)
        walker.go(0)
        self.assertEqual((path, gone), ((0, 1), ((0, 1),)))

    def test_walkers_are_apart(self):
        one, other = Walker(BOW, 0), Walker(BOW, 0)
        one.go(1)
        self.check_stand(other, (0,), (), 6)
        other.go(3)
        other.go(4)
        self.check_stand(one, (0, 1), ((0, 1),), 5)

    def test_properties_are_not_assigned(self):
        walker = Walker(BOW, 0)
        for name in ("path", "gone"):
            self.assertEqual(raised(setattr, walker, name, ())[0], "AttributeError")
        self.check_stand(walker, (0,), (), 6)


class ErrorsTest(StandCase):
    def test_bad_net(self):
        for part, value in WRONG_NETS:
            with self.subTest(value=value):
                self.assertEqual(raised(Walker, value, 0), ("BadNet", {"part": part}))

    def test_bad_net_ahead_of_a_bad_hall(self):
        for part, value in WRONG_NETS:
            for hall in (True, -1, 9, None, "0", [0]):
                with self.subTest(value=value, hall=hall):
                    self.assertEqual(raised(Walker, value, hall), ("BadNet", {"part": part}))

    def test_bad_hall(self):
        for hall in WRONG_HALLS_OF_FIVE:
            with self.subTest(hall=hall):
                self.assertEqual(raised(Walker, BOW, hall), ("BadHall", {}))
        for halls in range(1, 10):
            self.assertEqual(raised(Walker, (halls, ()), halls), ("BadHall", {}))
            self.assertIsNone(raised(Walker, (halls, ()), halls - 1))

    def test_bad_hall_to_go_to(self):
        walker = Walker(BOW, 0)
        for onward in (2, 1, 0):
            for hall in WRONG_HALLS_OF_FIVE:
                with self.subTest(hall=hall):
                    self.check_error(walker.go, (hall,), "BadHall", walker)
            walker.go(onward)

    def test_true_is_no_hall(self):
        walker = Walker(TRIANGLE, 0)
        # Hall 1 may be gone to, then no more, and True is no hall all the same.
        self.check_error(walker.go, (True,), "BadHall", walker)
        walker.go(1)
        self.check_error(walker.go, (True,), "BadHall", walker)
        self.check_error(walker.go, (False,), "BadHall", walker)

    def test_bad_hall_ahead_of_no_way(self):
        walker = Walker((3, ()), 0)
        for hall in (3, -1, True, False, None, "1", (1,), [1]):
            self.check_error(walker.go, (hall,), "BadHall", walker)
        for hall in (0, 1, 2):
            self.check_error(walker.go, (hall,), "NoWay", walker)

    def test_no_way(self):
        walker = Walker(TAILED, 0)
        for hall in (0, 3, 4):
            self.check_error(walker.go, (hall,), "NoWay", walker)
        walker.go(2)
        walker.go(3)
        for hall in (0, 1, 3):
            self.check_error(walker.go, (hall,), "NoWay", walker)

    def test_way_gone_already(self):
        walker = Walker(FOUR, 0)
        walker.go(1)
        # Back by the same way.
        self.check_error(walker.go, (0,), "NoWay", walker)
        walker.go(2)
        self.check_error(walker.go, (1,), "NoWay", walker)
        walker.go(0)
        # Once more in the same direction.
        self.check_error(walker.go, (1,), "NoWay", walker)
        self.check_error(walker.go, (2,), "NoWay", walker)
        walker.go(3)
        self.check_error(walker.go, (0,), "NoWay", walker)
        walker.undo()
        walker.go(3)
        self.check_stand(walker, (0, 1, 2, 0, 3), ((0, 1), (1, 2), (0, 2), (0, 3)), 2)

    def test_no_step(self):
        for net in (BOW, (1, ()), (9, ())):
            walker = Walker(net, 0)
            self.check_error(walker.undo, (), "NoStep", walker)

    def test_errors_take_no_step(self):
        walker = Walker(TRIANGLE, 1)
        self.check_error(walker.go, (1,), "NoWay", walker)
        self.check_error(walker.undo, (), "NoStep", walker)
        walker.go(0)
        self.check_error(walker.go, (3,), "BadHall", walker)
        walker.undo()
        self.check_stand(walker, (1,), (), 3)


if __name__ == "__main__":
    unittest.main()
