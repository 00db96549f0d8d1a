"""Point 4: partings of all ways into rings."""

import unittest

from eventours.nets import is_even
from eventours.partings import count_partings, fewest_rings, parting, shows_parting

from support import (
    BOW, FOUR, SCATTERED, TRIANGLE, WRONG_NETS, all_nets, even_nets, full_net,
    has_even_halls, net_without, plain_partings, raised, ways_round,
)

TOO_MANY = ("TooMany", {"most": 18})
NOT_EVEN = ("NotEven", {})
# Two rings that have no hall in common, and two that have one.
APART = (7, ((0, 4), (0, 5), (1, 2), (1, 6), (2, 6), (4, 5)))
EIGHT = (6, ((0, 1), (0, 2), (1, 2), (2, 3), (2, 5), (3, 4), (4, 5)))
EIGHTEEN = net_without(7, ((0, 1), (0, 2), (1, 2)))
SIX_TRIANGLES = (9, (
    (0, 1), (0, 2), (0, 3), (0, 6), (1, 2), (1, 4), (1, 7), (2, 5), (2, 8),
    (3, 4), (3, 5), (3, 6), (4, 5), (4, 7), (5, 8), (6, 7), (6, 8), (7, 8),
))
# The way (5, 6) of EIGHTEEN is gone by another hall.
NINETEEN = (8, tuple(sorted(set(EIGHTEEN[1]) - {(5, 6)} | {(5, 7), (6, 7)})))
TWENTY_FOUR = net_without(8, ((0, 1), (2, 3), (4, 5), (6, 7)))
UNEVEN_EIGHTEEN = net_without(7, ((0, 1), (2, 3), (4, 5)))
UNEVEN_NINETEEN = net_without(7, ((0, 1), (2, 3)))

NO_PARTINGS_OF_BOW = (
    # No tuple, or not of tuples.
    None, 0, 1, True, False, "", "bow", [], {}, [(0, 1, 2), (0, 3, 4)],
    ([0, 1, 2], [0, 3, 4]), ([0, 1, 2], (0, 3, 4)), {(0, 1, 2): (0, 3, 4)}, (0, 1, 2), (0, 1, 2, 0, 3, 4),
    (None, (0, 3, 4)), ((0, 1, 2), 7), ((0, 1, 2), "034"), ((0, 1, 2), {0: 3}), (((0, 1, 2), (0, 3, 4)),),
    # Ways on no ring, or on two.
    (), ((0, 1, 2),), ((0, 3, 4),), ((0, 1, 2), (0, 1, 2), (0, 3, 4)), ((0, 1, 2), (0, 3, 4), (0, 3, 4)),
    # Not ascending.
    ((0, 3, 4), (0, 1, 2)),
    # Rings told otherwise, or no rings.
    ((0, 2, 1), (0, 3, 4)), ((0, 1, 2), (0, 4, 3)), ((0, 1, 2), (3, 4, 0)), ((0, 3, 4), (1, 2, 0)),
    ((0, 1, 2, 0), (0, 3, 4)), ((0, 1, 2, 0, 3, 4),), ((0, 1, 2, 0, 3, 4, 0),), ((0, 1, 2, 3, 4),),
    ((), (0, 1, 2), (0, 3, 4)), ((0,), (0, 1, 2), (0, 3, 4)), ((0, 1), (0, 2), (0, 3), (0, 4), (1, 2), (3, 4)),
    # No halls, though True equals 1.
    ((False, 1, 2), (0, 3, 4)), ((0, True, 2), (0, 3, 4)), ((0, 1, 2), (False, 3, 4)),
    ((0, 1, 2), (0, 3, 5)), ((-1, 1, 2), (0, 3, 4)), ((0, 1, 10 ** 30), (0, 3, 4)),
    ((0, 1, "2"), (0, 3, 4)), ((0, 1, None), (0, 3, 4)), ((0, 1, [2]), (0, 3, 4)), ((0, 1, {}), (0, 3, 4)),
    (("0", "1", "2"), (0, 3, 4)), ((0, 1, (2,)), (0, 3, 4)),
)


class PartingTest(unittest.TestCase):
    def test_examples(self):
        self.assertEqual(parting(BOW), ((0, 1, 2), (0, 3, 4)))
        self.assertIs(parting((2, ((0, 1),))), None)

    def test_net_without_ways(self):
        self.assertEqual(parting((1, ())), ())
        self.assertEqual(parting((9, ())), ())

    def test_only_parting(self):
        self.assertEqual(parting(TRIANGLE), ((0, 1, 2),))
        self.assertEqual(parting(APART), ((0, 4, 5), (1, 2, 6)))
        self.assertEqual(parting(EIGHT), ((0, 1, 2), (2, 3, 4, 5)))

    def test_ring_is_told_by_the_lesser_neighbour(self):
        net = (5, ((0, 3), (0, 4), (1, 3), (1, 4)))
        self.assertEqual(parting(net), ((0, 3, 1, 4),))

    def test_none_exactly_for_nets_that_are_not_even(self):
        for halls in range(1, 6):
            for net in all_nets(halls):
                self.assertIs(parting(net) is None, not has_even_halls(net), net)

    def test_is_a_parting(self):
        for halls in range(1, 6):
            for net in even_nets(halls):
                self.assertIn(parting(net), plain_partings(net), net)

    def test_greater_nets(self):
        for net in (full_net(7), full_net(9), EIGHTEEN, SIX_TRIANGLES, NINETEEN, TWENTY_FOUR):
            with self.subTest(net=net):
                found = parting(net)
                self.assertEqual(sorted(way for ring in found for way in ways_round(ring)), list(net[1]))
                self.assertEqual(found, tuple(sorted(found)))
                for ring in found:
                    self.assertEqual(len(set(ring)), len(ring))
                    self.assertEqual(ring[0], min(ring))
                    self.assertLess(ring[1], ring[-1])

    def test_greater_nets_that_are_not_even(self):
        for net in (full_net(8), UNEVEN_EIGHTEEN, UNEVEN_NINETEEN, SCATTERED):
            self.assertIs(parting(net), None)


class ShowsPartingTest(unittest.TestCase):
    def test_example(self):
        self.assertIs(shows_parting(BOW, ((0, 3, 4), (0, 1, 2))), False)
        self.assertIs(shows_parting(BOW, ((0, 1, 2), (0, 3, 4))), True)

    def test_each_parting_is_shown(self):
        for halls in range(1, 6):
            for net in even_nets(halls):
                for value in plain_partings(net):
                    self.assertIs(shows_parting(net, value), True, net)

    def test_partings_of_other_nets_are_not(self):
        nets = even_nets(4)
        for net in nets:
            for other in nets:
                for value in plain_partings(other):
                    self.assertIs(shows_parting(net, value), net == other, (net, value))

    def test_what_parting_returns(self):
        for net in all_nets(4) + [full_net(halls) for halls in range(1, 10)]:
            self.assertIs(shows_parting(net, parting(net)), True, net)

    def test_other_values(self):
        for value in NO_PARTINGS_OF_BOW:
            with self.subTest(value=value):
                self.assertIs(shows_parting(BOW, value), False)

    def test_rings_told_otherwise(self):
        net = (4, ((0, 1), (0, 3), (1, 2), (2, 3)))
        self.assertIs(shows_parting(net, ((0, 1, 2, 3),)), True)
        for ring in ((0, 3, 2, 1), (1, 0, 3, 2), (1, 2, 3, 0), (3, 0, 1, 2), (0, 2, 1, 3), (0, 1, 2, 3, 0)):
            self.assertIs(shows_parting(net, (ring,)), False, ring)

    def test_net_without_ways(self):
        for halls in (1, 9):
            self.assertIs(shows_parting((halls, ()), ()), True)
            for value in (None, [], {}, "", 0, False, ((),), ((0,),), ((0, 1, 2),)):
                self.assertIs(shows_parting((halls, ()), value), False, value)

    def test_nets_that_are_not_even(self):
        for net in (FOUR, SCATTERED, (2, ((0, 1),)), full_net(8)):
            self.assertIs(shows_parting(net, None), True)
            for value in NO_PARTINGS_OF_BOW[1:] + (((0, 4, 8),), ((0, 1, 2), (0, 3, 4)), ((0, 1),)):
                self.assertIs(shows_parting(net, value), False, value)

    def test_some_rings_of_a_net_that_is_not_even(self):
        net = (4, ((0, 1), (0, 2), (1, 2), (2, 3)))
        self.assertIs(shows_parting(net, ((0, 1, 2),)), False)
        self.assertIs(shows_parting(net, None), True)


class CountPartingsTest(unittest.TestCase):
    def test_examples(self):
        self.assertEqual(count_partings(BOW), 1)
        self.assertEqual(count_partings(FOUR), 0)
        self.assertEqual(count_partings(full_net(5)), 21)

    def test_net_without_ways(self):
        self.assertEqual(count_partings((1, ())), 1)
        self.assertEqual(count_partings((9, ())), 1)

    def test_all_nets_of_five_halls(self):
        for halls in range(1, 6):
            for net in all_nets(halls):
                self.assertEqual(count_partings(net), len(plain_partings(net)), net)

    def test_odd_exactly_for_even_nets(self):
        for net in even_nets(6):
            self.assertEqual(count_partings(net) % 2, 1, net)
        for net in (FOUR, SCATTERED, (2, ((0, 1),)), UNEVEN_EIGHTEEN):
            self.assertEqual(count_partings(net), 0)

    def test_eighteen_ways(self):
        self.assertEqual(count_partings(EIGHTEEN), len(plain_partings(EIGHTEEN)))
        self.assertEqual(count_partings(SIX_TRIANGLES), len(plain_partings(SIX_TRIANGLES)))

    def test_more_than_eighteen_ways(self):
        for net in (UNEVEN_NINETEEN, NINETEEN, TWENTY_FOUR, full_net(7), full_net(8), full_net(9)):
            with self.subTest(net=net):
                self.assertEqual(raised(count_partings, net), TOO_MANY)


class FewestRingsTest(unittest.TestCase):
    def test_examples(self):
        self.assertEqual(fewest_rings(BOW), 2)
        self.assertEqual(fewest_rings(TRIANGLE), 1)
        self.assertEqual(raised(fewest_rings, (2, ((0, 1),))), NOT_EVEN)

    def test_net_without_ways(self):
        self.assertEqual(fewest_rings((1, ())), 0)
        self.assertEqual(fewest_rings((9, ())), 0)

    def test_not_the_number_of_just_any_parting(self):
        self.assertEqual(fewest_rings(full_net(5)), 2)
        self.assertEqual(fewest_rings(SIX_TRIANGLES), 2)

    def test_all_even_nets_of_five_halls(self):
        for halls in range(1, 6):
            for net in even_nets(halls):
                self.assertEqual(fewest_rings(net), min(map(len, plain_partings(net))), net)

    def test_eighteen_ways(self):
        for net in (EIGHTEEN, SIX_TRIANGLES):
            self.assertEqual(fewest_rings(net), min(map(len, plain_partings(net))))

    def test_nets_that_are_not_even(self):
        for net in (FOUR, SCATTERED, UNEVEN_EIGHTEEN):
            self.assertEqual(raised(fewest_rings, net), NOT_EVEN)

    def test_more_than_eighteen_ways(self):
        for net in (NINETEEN, TWENTY_FOUR, full_net(7), full_net(9)):
            with self.subTest(net=net):
                self.assertTrue(is_even(net))
                self.assertEqual(raised(fewest_rings, net), TOO_MANY)

    def test_not_even_comes_ahead_of_too_many(self):
        for net in (UNEVEN_NINETEEN, full_net(8)):
            self.assertEqual(raised(fewest_rings, net), NOT_EVEN)


class BadNetTest(unittest.TestCase):
    def test_first_wrong_part(self):
        for function in (parting, count_partings, fewest_rings):
            for part, value in WRONG_NETS:
                with self.subTest(function=function.__name__, value=value):
                    self.assertEqual(raised(function, value), ("BadNet", {"part": part}))

    def test_whatever_value_is_to_be_shown(self):
        for part, value in WRONG_NETS:
            for shown in (None, (), ((0, 1, 2),), [], 7):
                with self.subTest(value=value, shown=shown):
                    self.assertEqual(raised(shows_parting, value, shown), ("BadNet", {"part": part}))


if __name__ == "__main__":
    unittest.main()
