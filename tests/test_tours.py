"""Point 7: tours."""

import unittest
from itertools import product

from eventours.tours import has_tour, shows_tour, tour

from support import (
    BOW, FOUR, SCATTERED, TAILED, TRIANGLE, WRONG_NETS, all_nets, full_net, has_even_halls,
    is_trail, net_without, plain_pieces, raised,
)

TWO_RINGS = (7, ((0, 2), (0, 4), (1, 3), (1, 5), (2, 4), (3, 5)))
# The halls with ways are not the first ones.
LATE = (6, ((2, 4), (2, 5), (4, 5)))
ODD = (FOUR, TAILED, SCATTERED, (2, ((0, 1),)), (3, ((0, 1), (1, 2))), full_net(8))
EVEN_AND_JOINED = (
    BOW, TRIANGLE, LATE, full_net(3), full_net(5), full_net(7), full_net(9),
    (4, ((0, 1), (0, 3), (1, 2), (2, 3))),
    net_without(6, ((0, 1), (2, 3), (4, 5))), net_without(8, ((0, 7), (1, 6), (2, 5), (3, 4))),
    (9, ((0, 1), (0, 8), (1, 2), (2, 3), (2, 5), (2, 8), (3, 4), (4, 5), (5, 6), (5, 8), (6, 7), (7, 8))),
    (9, tuple((0, hall) for hall in range(1, 9)) + ((1, 2), (3, 4), (5, 6), (7, 8))),
)
# Even nets of seven halls by the halls of a ring and of another one.
TWO_LOOPS = [
    (7, tuple(sorted({(0, 1), (1, 2), (0, 2)} ^ {(a, b), (b, c), (a, c)})))
    for a in range(7) for b in range(a + 1, 7) for c in range(b + 1, 7)
]


def is_plain_tour(net, value):
    """Tell by the words of point 7 whether a tuple of integers is a tour."""
    halls, ways = net
    if not value or not all(0 <= hall < halls for hall in value) or value[0] != value[-1]:
        return False
    steps = list(zip(value, value[1:]))
    gone = [way for way in ways for step in steps if step in (way, way[::-1])]
    return len(gone) == len(steps) and gone == list(ways)


def may_have_tour(net):
    """Tell by the words of point 7 whether there is a tour."""
    joined = [piece for piece in plain_pieces(net) if len(piece) > 1]
    return has_even_halls(net) and len(joined) < 2


def some_plain_tour(net, path):
    """The first tour that begins with a path, by trying all halls; None without one."""
    if len(path) == len(net[1]) + 1:
        return path if path[0] == path[-1] else None
    for hall in range(net[0]):
        # No way of any net is (-1, -1), so all may be gone.
        if is_trail(net, (-1, -1), path + (hall,)):
            found = some_plain_tour(net, path + (hall,))
            if found is not None:
                return found
    return None


class TourTest(unittest.TestCase):
    def check_tour(self, net):
        found = tour(net)
        self.assertIs(type(found), tuple)
        self.assertEqual([type(hall) for hall in found], [int] * (len(net[1]) + 1))
        self.assertTrue(is_plain_tour(net, found), (net, found))
        self.assertIs(shows_tour(net, found), True)
        self.assertIs(shows_tour(net, None), False)
        self.assertIs(has_tour(net), True)

    def check_no_tour(self, net):
        self.assertIs(has_tour(net), False, net)
        self.assertIsNone(tour(net), net)
        self.assertIs(shows_tour(net, None), True)
        self.assertIs(shows_tour(net, (0,)), False)

    def check_net(self, net):
        if may_have_tour(net):
            self.check_tour(net)
        else:
            self.check_no_tour(net)

    def test_examples(self):
        self.assertIs(has_tour(BOW), True)
        self.assertIs(shows_tour(BOW, tour(BOW)), True)
        self.assertIs(shows_tour(BOW, (0, 1, 2, 0, 3, 4, 0)), True)
        self.assertIsNone(tour((2, ((0, 1),))))

    def test_ordinary_nets(self):
        for net in EVEN_AND_JOINED:
            with self.subTest(net=net):
                self.check_tour(net)

    def test_nets_without_ways(self):
        for halls in range(1, 10):
            net = (halls, ())
            with self.subTest(halls=halls):
                self.check_tour(net)
                self.assertEqual(len(tour(net)), 1)

    def test_several_pieces_of_one_hall(self):
        for net in (LATE, (9, ((0, 1), (0, 2), (1, 2))), (9, ((6, 7), (6, 8), (7, 8)))):
            with self.subTest(net=net):
                self.check_tour(net)

    def test_two_pieces_of_more_halls(self):
        for net in (
            TWO_RINGS, (6, ((0, 1), (0, 2), (1, 2), (3, 4), (3, 5), (4, 5))),
            (9, ((0, 1), (0, 2), (1, 2), (3, 4), (3, 5), (4, 5), (6, 7), (6, 8), (7, 8))),
        ):
            with self.subTest(net=net):
                self.check_no_tour(net)

    def test_nets_that_are_not_even(self):
        for net in ODD:
            with self.subTest(net=net):
                self.check_no_tour(net)

    def test_all_small_nets(self):
        for halls in range(1, 6):
            for net in all_nets(halls):
                self.check_net(net)

    def test_there_is_one_exactly_then(self):
        for halls in range(1, 5):
            for net in all_nets(halls):
                begun = [some_plain_tour(net, (hall,)) for hall in range(halls)]
                self.assertIs(has_tour(net), any(begun), net)

    def test_two_loops(self):
        for net in TWO_LOOPS:
            self.check_net(net)


class ShowsTourTest(unittest.TestCase):
    def check(self, net, values, told):
        for value in values:
            with self.subTest(net=net, value=value):
                self.assertIs(shows_tour(net, value), told)

    def test_all_tours(self):
        self.check(TRIANGLE, ((0, 1, 2, 0), (0, 2, 1, 0), (1, 0, 2, 1), (2, 1, 0, 2)), True)
        self.check(BOW, (
            (0, 2, 1, 0, 4, 3, 0), (0, 3, 4, 0, 1, 2, 0), (1, 2, 0, 3, 4, 0, 1), (3, 0, 1, 2, 0, 4, 3),
        ), True)
        self.check((3, ()), ((0,), (1,), (2,)), True)

    def test_all_tuples_of_halls(self):
        ring = (4, ((0, 1), (0, 2), (1, 3), (2, 3)))
        for net in (TRIANGLE, ring, (4, ((1, 2), (1, 3), (2, 3))), (2, ()), (1, ())):
            for many in range(6):
                for value in product(range(-1, 5), repeat=many):
                    self.assertIs(shows_tour(net, value), is_plain_tour(net, value), (net, value))

    def test_nets_without_tour(self):
        for net in ODD + (TWO_RINGS,):
            self.check(net, [None], True)
            self.check(net, (
                0, True, False, "", "None", (), [], {}, (0,), (None,), (0, 1, 0), (0, 2, 4, 0),
                (0, 1, 2, 0), (0, 1, 2, 3, 0, 2, 1, 3, 0),
            ), False)

    def test_values_of_every_kind(self):
        for net in (BOW, TRIANGLE, (3, ())):
            self.check(net, (
                None, 0, 1, -1, 10 ** 30, True, False, "", "0", "0120", "None", (), [], {}, [0],
                [0, 1, 2, 0], [0, 1, 2, 0, 3, 4, 0], {0: 1}, ((0,),), ((0, 1, 2, 0),), ([0],),
                (None,), ("0",), ("",), ((),), ({},), ("0", "1", "2", "0"), (0, 1, 2, None),
                (0, 1, None, 0), (0, 1, "2", 0), (0, [1], 2, 0), (0, (1,), 2, 0), (0, {}, 2, 0),
                (0, ((1, 2), 3), [2], 0),
            ), False)

    def test_true_and_false_are_no_halls(self):
        self.check(TRIANGLE, (
            (False, 1, 2, False), (0, True, 2, 0), (False, True, 2, False), (0, 1, 2, False),
            (False, 1, 2, 0), (True, 0, 2, True),
        ), False)
        self.check(BOW, ((0, True, 2, 0, 3, 4, 0), (0, 1, 2, False, 3, 4, 0)), False)
        self.check((3, ()), ((False,), (True,)), False)

    def test_wrong_tours_of_bow(self):
        self.check(BOW, (
            # A hall too many, at the end, at the start, within.
            (0, 1, 2, 0, 3, 4, 0, 1), (0, 1, 2, 0, 3, 4, 0, 0), (0, 0, 1, 2, 0, 3, 4, 0),
            (1, 0, 1, 2, 0, 3, 4, 0), (0, 1, 2, 0, 0, 3, 4, 0), (0, 1, 2, 0, 5, 3, 4, 0),
            # A way gone twice, or one left out.
            (0, 1, 2, 1, 0, 3, 4, 0), (0, 1, 2, 0, 3, 4, 0, 1, 0), (0, 1, 2, 0, 1, 2, 0),
            (0, 1, 2, 0, 3, 4, 0, 1, 2, 0, 3, 4, 0), (0, 1, 2, 0), (0, 3, 4, 0), (0,),
            (0, 1, 2, 0, 3, 4), (1, 2, 0, 3, 4, 0), (0, 1, 2, 0, 3, 0),
            # Halls that are not joined, or are none.
            (0, 1, 3, 4, 0, 2, 0), (0, 1, 3, 0, 2, 4, 0), (0, 1, 2, 0, 3, 5, 0), (0, 1, 2, 0, 3, -1, 0),
            (0, 1, 2, 0, 3, 10 ** 30, 0), (5, 1, 2, 0, 3, 4, 5),
        ), False)

    def test_wrong_tours_without_ways(self):
        for halls in (1, 3, 9):
            self.check((halls, ()), ((), (0, 0), (halls,), (-1,), (0, 1), (0, 1, 0), (0, 0, 0)), False)

    def test_not_closed(self):
        # Each way is gone once, but one ends elsewhere.
        path = (3, ((0, 1), (1, 2)))
        self.check(path, ((0, 1, 2), (2, 1, 0)), False)


class ErrorsTest(unittest.TestCase):
    def test_bad_net(self):
        for part, value in WRONG_NETS:
            told = ("BadNet", {"part": part})
            with self.subTest(value=value):
                self.assertEqual(raised(has_tour, value), told)
                self.assertEqual(raised(tour, value), told)
                for shown in (None, (0,), (), [1], True):
                    self.assertEqual(raised(shows_tour, value, shown), told)


if __name__ == "__main__":
    unittest.main()
