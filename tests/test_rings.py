"""Point 3: rings, how many each way lies on, and evenness by them."""

import unittest

from eventours.nets import is_even
from eventours.rings import all_odd, counts, rings, rings_through

from support import (
    BOW, FOUR, SCATTERED, TAILED, TRIANGLE, WRONG_NETS, WRONG_WAYS_OF_TAILED, all_nets,
    full_net, net_without, plain_rings, raised, ways_round,
)

# They have 19760 and 20412 rings, the nearest to 20000 that a search of nets found.
JUST_FEW_ENOUGH = net_without(9, ((0, 1), (0, 2), (0, 5), (0, 6)))
JUST_TOO_MANY = net_without(9, ((0, 5), (0, 7), (0, 8), (5, 7)))
TOO_MANY = ("TooMany", {"most": 20000})


class RingsTest(unittest.TestCase):
    def test_example(self):
        self.assertEqual(rings(BOW), ((0, 1, 2), (0, 3, 4)))

    def test_full_net_of_four_halls(self):
        told = ((0, 1, 2), (0, 1, 2, 3), (0, 1, 3), (0, 1, 3, 2), (0, 2, 1, 3), (0, 2, 3), (1, 2, 3))
        self.assertEqual(rings(FOUR), told)

    def test_rings_apart(self):
        self.assertEqual(rings(SCATTERED), ((0, 4, 8),))
        net = (8, ((0, 6), (0, 7), (1, 3), (1, 5), (2, 3), (2, 5), (6, 7)))
        self.assertEqual(rings(net), ((0, 6, 7), (1, 3, 2, 5)))

    def test_nets_without_rings(self):
        for net in ((1, ()), (9, ()), (2, ((0, 1),)), (4, ((0, 1), (0, 2), (0, 3)))):
            with self.subTest(net=net):
                self.assertEqual(rings(net), ())

    def test_ring_of_nine_halls(self):
        ways = tuple((hall, hall + 1) for hall in range(8))
        self.assertEqual(rings((9, tuple(sorted(ways + ((0, 8),))))), (tuple(range(9)),))

    def test_all_nets_of_five_halls(self):
        for net in all_nets(5):
            self.assertEqual(rings(net), plain_rings(net), net)

    def test_seven_halls(self):
        net = net_without(7, ((0, 1), (2, 5), (3, 6)))
        self.assertEqual(rings(net), plain_rings(net))

    def test_eight_halls(self):
        found = rings(full_net(8))
        self.assertEqual(len(found), 8018)
        self.assertEqual(found, tuple(sorted(set(found))))


class CountsTest(unittest.TestCase):
    def test_examples(self):
        self.assertEqual(counts(BOW), (1,) * 6)
        self.assertEqual(counts(FOUR), (4,) * 6)

    def test_ways_on_no_ring(self):
        self.assertEqual(counts(TAILED), (1, 1, 1, 0, 0))
        self.assertEqual(counts((2, ((0, 1),))), (0,))

    def test_unlike_counts(self):
        net = (4, ((0, 1), (0, 2), (0, 3), (1, 2), (2, 3)))
        self.assertEqual(counts(net), (2, 2, 2, 2, 2))
        net = (5, ((0, 1), (0, 2), (0, 3), (0, 4), (1, 2), (2, 3), (3, 4)))
        self.assertEqual(counts(net), (3, 3, 3, 3, 3, 4, 3))

    def test_without_ways(self):
        self.assertEqual(counts((1, ())), ())
        self.assertEqual(counts((9, ())), ())

    def test_all_nets_of_five_halls(self):
        for net in all_nets(5):
            round_about = [way for ring in plain_rings(net) for way in ways_round(ring)]
            told = tuple(round_about.count(way) for way in net[1])
            self.assertEqual(counts(net), told, net)


class RingsThroughTest(unittest.TestCase):
    def test_examples(self):
        self.assertEqual(rings_through(BOW, (0, 3)), ((0, 3, 4),))
        self.assertEqual(raised(rings_through, (3, ((0, 1),)), (0, 2)), ("BadWay", {}))

    def test_every_place_of_a_way(self):
        self.assertEqual(rings_through(FOUR, (0, 1)), ((0, 1, 2), (0, 1, 2, 3), (0, 1, 3), (0, 1, 3, 2)))
        self.assertEqual(rings_through(FOUR, (0, 3)), ((0, 1, 2, 3), (0, 1, 3), (0, 2, 1, 3), (0, 2, 3)))
        self.assertEqual(rings_through(FOUR, (1, 2)), ((0, 1, 2), (0, 1, 2, 3), (0, 2, 1, 3), (1, 2, 3)))

    def test_way_on_no_ring(self):
        self.assertEqual(rings_through(TAILED, (2, 3)), ())

    def test_all_nets_of_five_halls(self):
        for net in all_nets(5):
            for way in net[1]:
                told = tuple(ring for ring in plain_rings(net) if way in ways_round(ring))
                self.assertEqual(rings_through(net, way), told, net)

    def test_bad_ways(self):
        for way in WRONG_WAYS_OF_TAILED:
            with self.subTest(way=way):
                self.assertEqual(raised(rings_through, TAILED, way), ("BadWay", {}))

    def test_net_without_ways(self):
        self.assertEqual(raised(rings_through, (9, ()), (0, 1)), ("BadWay", {}))


class AllOddTest(unittest.TestCase):
    def test_examples(self):
        self.assertIs(all_odd(BOW), True)
        self.assertIs(all_odd(FOUR), False)

    def test_edges(self):
        self.assertIs(all_odd((1, ())), True)
        self.assertIs(all_odd((9, ())), True)
        self.assertIs(all_odd((2, ((0, 1),))), False)
        self.assertIs(all_odd(TRIANGLE), True)
        self.assertIs(all_odd(TAILED), False)

    def test_exactly_for_even_nets(self):
        for halls in range(1, 6):
            for net in all_nets(halls):
                self.assertIs(all_odd(net), is_even(net), net)

    def test_greater_nets(self):
        for net in (full_net(7), full_net(8), net_without(8, ((0, 1), (2, 3), (4, 5), (6, 7)))):
            with self.subTest(net=net):
                self.assertIs(all_odd(net), is_even(net))


class BadNetTest(unittest.TestCase):
    def test_first_wrong_part(self):
        for function in (rings, counts, all_odd):
            for part, value in WRONG_NETS:
                with self.subTest(function=function.__name__, value=value):
                    self.assertEqual(raised(function, value), ("BadNet", {"part": part}))

    def test_ahead_of_a_bad_way(self):
        for part, value in WRONG_NETS:
            for way in ((0, 1), (1, 0), None, [0, 1]):
                with self.subTest(value=value, way=way):
                    self.assertEqual(raised(rings_through, value, way), ("BadNet", {"part": part}))


class TooManyTest(unittest.TestCase):
    def test_just_few_enough(self):
        found = rings(JUST_FEW_ENOUGH)
        self.assertEqual(len(found), 19760)
        self.assertEqual(found, tuple(sorted(set(found))))
        self.assertEqual(sum(counts(JUST_FEW_ENOUGH)), sum(len(ring) for ring in found))
        through = rings_through(JUST_FEW_ENOUGH, (7, 8))
        self.assertEqual(through, tuple(ring for ring in found if (7, 8) in ways_round(ring)))
        self.assertIs(all_odd(JUST_FEW_ENOUGH), False)

    def test_too_many(self):
        for net in (JUST_TOO_MANY, full_net(9)):
            for function in (rings, counts, all_odd):
                with self.subTest(function=function.__name__, net=net):
                    self.assertEqual(raised(function, net), TOO_MANY)

    def test_too_many_though_fewer_go_through(self):
        for net in (JUST_TOO_MANY, full_net(9)):
            self.assertEqual(raised(rings_through, net, (0, 1)), TOO_MANY)

    def test_behind_a_bad_way(self):
        for way in WRONG_WAYS_OF_TAILED[:2] + (None, (0, 5), (0, 9), [0, 1], (False, True)):
            with self.subTest(way=way):
                self.assertEqual(raised(rings_through, JUST_TOO_MANY, way), ("BadWay", {}))


if __name__ == "__main__":
    unittest.main()
