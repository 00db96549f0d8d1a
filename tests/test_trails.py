"""Point 5: trails from one end of a way to the other, without it."""

import unittest

from eventours.trails import paths, trails, turned

from support import (
    BOW, FOUR, SCATTERED, TAILED, TRIANGLE, WRONG_NETS, WRONG_WAYS_OF_TAILED, all_nets,
    even_nets, full_net, has_even_halls, net_without, pairs_of, plain_trails, raised,
)

TOO_MANY = ("TooMany", {"most": 20000})
# From 0 to 6 there are 20000 trails in one, from 0 to 5 one more in the other.
JUST_FEW_ENOUGH = (9, (
    (0, 1), (0, 5), (0, 6), (0, 7), (1, 2), (1, 3), (1, 4), (1, 5), (1, 6), (1, 8),
    (2, 4), (2, 6), (2, 7), (3, 4), (3, 5), (3, 7), (3, 8), (4, 7), (4, 8),
))
JUST_TOO_MANY = (9, (
    (0, 1), (0, 2), (0, 5), (0, 6), (1, 2), (1, 3), (1, 6), (1, 8), (2, 8), (3, 4),
    (3, 6), (3, 8), (4, 7), (4, 8), (5, 7), (5, 8), (6, 7), (6, 8), (7, 8),
))
# All halls but one are joined, and that one to one other.
FAR_HALL = (9, pairs_of(8) + ((7, 8),))

NO_TRAILS_OF_BOW = (
    None, 0, 1, True, False, "", "021", [], {}, (), (0,), (1,), (0, 2), (2, 1), (0, 0), ((0, 2, 1),),
    # The way itself, another end, another first hall, the other way round.
    (0, 1), (0, 1, 0, 2, 1), (0, 1, 2), (0, 3, 4, 0), (0, 2), (1, 2, 0), (1, 2, 0, 3, 4, 0), (2, 1), (3, 4, 0, 2, 1),
    # Halls that are not joined, ways gone twice, on behind the end.
    (0, 4, 2, 1), (0, 5, 2, 1), (0, 2, 0, 2, 1), (0, 3, 4, 3, 0, 2, 1), (0, 3, 4, 0, 3, 4, 0, 2, 1),
    (0, 2, 1, 0), (0, 2, 1, 2, 1), (0, 2, 1, 0, 3, 4, 0), (0, 3, 4, 0, 2, 1, 0), (0, 0, 2, 1),
    # Equal to a trail in Python, but not of integers; and lists.
    (False, 2, True), (0, 2, True), (False, 2, 1), (False, 3, 4, 0, 2, 1), (0, 3, 4, False, 2, 1),
    (0, 3, 4, 0, 2, True), [0, 2, 1], [0, 3, 4, 0, 2, 1], [(0, 3, 4, 0, 2, 1)], ([0, 3, 4, 0, 2, 1],),
    ("0", "3", "4", "0", "2", "1"), "034021", (0, "3", 4, 0, 2, 1), (0, None, 4, 0, 2, 1), (0, [3], 4, 0, 2, 1),
    (0, {}, 4, 0, 2, 1), (0, (3, 4), 0, 2, 1), {0: 3, 3: 4}, (0, 10 ** 30, 4, 0, 2, 1), (0, -1, 4, 0, 2, 1),
)


class TrailsTest(unittest.TestCase):
    def test_example(self):
        self.assertEqual(trails(BOW, (0, 1)), ((0, 2, 1), (0, 3, 4, 0, 2, 1), (0, 4, 3, 0, 2, 1)))

    def test_without_the_way(self):
        self.assertEqual(trails(TRIANGLE, (0, 1)), ((0, 2, 1),))
        self.assertEqual(trails(TRIANGLE, (0, 2)), ((0, 1, 2),))
        self.assertEqual(trails(TRIANGLE, (1, 2)), ((1, 0, 2),))
        self.assertEqual(trails((2, ((0, 1),)), (0, 1)), ())

    def test_from_the_lesser_hall_to_the_greater(self):
        self.assertEqual(trails(FOUR, (1, 3)), ((1, 0, 2, 3), (1, 0, 3), (1, 2, 0, 3), (1, 2, 3)))
        self.assertEqual(trails(TAILED, (3, 4)), ())
        self.assertEqual(trails(SCATTERED, (4, 8)), ((4, 0, 8),))

    def test_end_as_soon_as_they_come_to_the_end(self):
        # At 1 one could go on by 3, 4 and come back.
        net = (5, ((0, 1), (0, 2), (1, 2), (1, 3), (1, 4), (3, 4)))
        self.assertEqual(trails(net, (0, 1)), ((0, 2, 1),))

    def test_come_back_to_the_first_hall(self):
        net = (5, ((0, 1), (0, 2), (0, 3), (0, 4), (1, 4), (2, 3), (2, 4)))
        told = ((0, 2, 3, 0, 4, 1), (0, 2, 4, 1), (0, 3, 2, 0, 4, 1), (0, 3, 2, 4, 1), (0, 4, 1))
        self.assertEqual(trails(net, (0, 1)), told)

    def test_all_nets_of_four_halls(self):
        for halls in range(1, 5):
            for net in all_nets(halls):
                for way in net[1]:
                    self.assertEqual(trails(net, way), plain_trails(net, way), (net, way))

    def test_nets_of_five_halls(self):
        for net in even_nets(5) + all_nets(5)[::7]:
            for way in net[1]:
                self.assertEqual(trails(net, way), plain_trails(net, way), (net, way))

    def test_six_halls(self):
        for net, way in ((full_net(6), (2, 4)), (net_without(6, ((0, 1), (2, 3), (4, 5))), (0, 2))):
            self.assertEqual(trails(net, way), plain_trails(net, way))

    def test_odd_exactly_for_even_nets(self):
        for net in all_nets(5)[::3]:
            odd = all(len(trails(net, way)) % 2 == 1 for way in net[1])
            self.assertIs(odd, has_even_halls(net), net)

    def test_end_that_no_trail_comes_to(self):
        self.assertEqual(trails(FAR_HALL, (7, 8)), ())
        self.assertEqual(trails((9, ((0, 1),) + FAR_HALL[1][7:]), (0, 1)), ())


class PathsTest(unittest.TestCase):
    def test_example(self):
        self.assertEqual(paths(BOW, (0, 1)), ((0, 2, 1),))

    def test_ordinary_nets(self):
        self.assertEqual(paths(FOUR, (0, 1)), ((0, 2, 1), (0, 2, 3, 1), (0, 3, 1), (0, 3, 2, 1)))
        self.assertEqual(paths((2, ((0, 1),)), (0, 1)), ())
        self.assertEqual(paths(FAR_HALL, (7, 8)), ())

    def test_nets_of_five_halls(self):
        for net in all_nets(4) + even_nets(5) + all_nets(5)[::7]:
            for way in net[1]:
                told = tuple(path for path in plain_trails(net, way) if len(set(path)) == len(path))
                self.assertEqual(paths(net, way), told, (net, way))


class TurnedTest(unittest.TestCase):
    def test_examples(self):
        self.assertEqual(turned(BOW, (0, 1), (0, 3, 4, 0, 2, 1)), (0, 4, 3, 0, 2, 1))
        self.assertIs(turned(BOW, (0, 1), (0, 2, 1)), None)

    def test_no_hall_stands_twice(self):
        for path in paths(full_net(5), (0, 1)):
            self.assertIs(turned(full_net(5), (0, 1), path), None)

    def test_first_hall_that_comes_a_second_time(self):
        net = full_net(6)
        # 2 comes a second time ahead of 0, though 0 stands ahead of 2.
        self.assertEqual(turned(net, (0, 1), (0, 2, 3, 4, 2, 5, 0, 3, 1)), (0, 2, 4, 3, 2, 5, 0, 3, 1))
        self.assertEqual(turned(net, (0, 1), (0, 3, 4, 0, 2, 3, 5, 2, 1)), (0, 4, 3, 0, 2, 3, 5, 2, 1))
        self.assertEqual(turned(net, (0, 1), (0, 2, 3, 4, 5, 2, 1)), (0, 2, 5, 4, 3, 2, 1))

    def test_hall_that_stands_three_times(self):
        net = (7, tuple(sorted((
            (0, 1), (0, 2), (2, 3), (3, 4), (2, 4), (2, 5), (5, 6), (2, 6), (1, 2),
        ))))
        self.assertEqual(turned(net, (0, 1), (0, 2, 3, 4, 2, 5, 6, 2, 1)), (0, 2, 4, 3, 2, 5, 6, 2, 1))
        self.assertEqual(turned(net, (0, 1), (0, 2, 6, 5, 2, 3, 4, 2, 1)), (0, 2, 5, 6, 2, 3, 4, 2, 1))

    def test_trails_pair_off(self):
        for net in even_nets(5) + all_nets(5)[::40] + [FOUR, TAILED]:
            for way in net[1]:
                found = plain_trails(net, way)
                for trail in found:
                    other = turned(net, way, trail)
                    if len(set(trail)) == len(trail):
                        self.assertIs(other, None)
                    else:
                        self.assertIn(other, found)
                        self.assertNotEqual(other, trail)
                        self.assertEqual(turned(net, way, other), trail)

    def test_the_rest_stays(self):
        net, way = full_net(5), (1, 3)
        for trail in plain_trails(net, way):
            other = turned(net, way, trail)
            if other is not None:
                second = min(at for at, hall in enumerate(trail) if hall in trail[:at])
                first = trail.index(trail[second])
                self.assertEqual(other[:first + 1], trail[:first + 1])
                self.assertEqual(other[second:], trail[second:])
                self.assertEqual(other[first:second + 1], trail[first:second + 1][::-1])

    def test_values_that_are_no_trails(self):
        for value in NO_TRAILS_OF_BOW:
            with self.subTest(value=value):
                self.assertIs(turned(BOW, (0, 1), value), None)

    def test_trails_of_another_way(self):
        for way in BOW[1]:
            for other in BOW[1]:
                for trail in plain_trails(BOW, other):
                    if way != other:
                        self.assertIs(turned(BOW, way, trail), None)


class ErrorsTest(unittest.TestCase):
    def test_bad_net(self):
        for function in (trails, paths):
            for part, value in WRONG_NETS:
                for way in ((0, 1), (1, 0), None, [0, 1]):
                    with self.subTest(function=function.__name__, value=value, way=way):
                        self.assertEqual(raised(function, value, way), ("BadNet", {"part": part}))

    def test_bad_net_for_turned(self):
        for part, value in WRONG_NETS:
            for way, trail in (((0, 1), (0, 2, 1)), ((1, 0), (0, 2, 1)), (None, None), ({}, [])):
                with self.subTest(value=value, way=way):
                    self.assertEqual(raised(turned, value, way, trail), ("BadNet", {"part": part}))

    def test_bad_ways(self):
        for way in WRONG_WAYS_OF_TAILED:
            with self.subTest(way=way):
                self.assertEqual(raised(trails, TAILED, way), ("BadWay", {}))
                self.assertEqual(raised(paths, TAILED, way), ("BadWay", {}))
                for trail in ((0, 1, 2), None, []):
                    self.assertEqual(raised(turned, TAILED, way, trail), ("BadWay", {}))

    def test_net_without_ways(self):
        for function, more in ((trails, ()), (paths, ()), (turned, ((0, 1),))):
            self.assertEqual(raised(function, (9, ()), (0, 1), *more), ("BadWay", {}))

    def test_just_few_enough(self):
        found = trails(JUST_FEW_ENOUGH, (0, 6))
        self.assertEqual(len(found), 20000)
        self.assertEqual(found, tuple(sorted(set(found))))
        told = tuple(path for path in found if len(set(path)) == len(path))
        self.assertEqual(paths(JUST_FEW_ENOUGH, (0, 6)), told)
        self.assertIs(turned(JUST_FEW_ENOUGH, (0, 6), told[0]), None)
        self.assertIn(turned(JUST_FEW_ENOUGH, (0, 6), (0, 1, 3, 4, 1, 6)), found)

    def test_too_many(self):
        for net, way in ((JUST_TOO_MANY, (0, 5)), (full_net(7), (0, 1)), (full_net(9), (4, 7))):
            with self.subTest(net=net):
                self.assertEqual(raised(trails, net, way), TOO_MANY)
                # So, too, where far fewer are asked for, or nothing that may be a trail.
                self.assertEqual(raised(paths, net, way), TOO_MANY)
                for trail in ((way[0], 2, way[1]), (0, 1, 2, 0, 6, 1), None, [], (), 7):
                    self.assertEqual(raised(turned, net, way, trail), TOO_MANY)

    def test_too_many_comes_behind_a_bad_way(self):
        for way in ((5, 0), (0, 3), (0, 9), (False, True), None, [0, 5]):
            self.assertEqual(raised(trails, JUST_TOO_MANY, way), ("BadWay", {}))
            self.assertEqual(raised(paths, JUST_TOO_MANY, way), ("BadWay", {}))
            self.assertEqual(raised(turned, JUST_TOO_MANY, way, None), ("BadWay", {}))


if __name__ == "__main__":
    unittest.main()
