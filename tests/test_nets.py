"""Point 2: nets, degrees, evenness and pieces."""

import unittest

from eventours.nets import degrees, is_even, is_net, pieces

from support import (
    BOW, FOUR, SCATTERED, TRIANGLE, WRONG_NETS, all_nets, full_net,
    plain_pieces, raised,
)


class IsNetTest(unittest.TestCase):
    def test_nets(self):
        nets = [BOW, FOUR, SCATTERED, TRIANGLE, (1, ()), (9, ()), (2, ((0, 1),)), (9, ((7, 8),))]
        for net in nets + [full_net(halls) for halls in range(1, 10)]:
            with self.subTest(net=net):
                self.assertIs(is_net(net), True)

    def test_other_values(self):
        for _, value in WRONG_NETS:
            with self.subTest(value=value):
                self.assertIs(is_net(value), False)


class BadNetTest(unittest.TestCase):
    def test_first_wrong_part(self):
        for function in (degrees, is_even, pieces):
            for part, value in WRONG_NETS:
                with self.subTest(function=function.__name__, value=value):
                    self.assertEqual(raised(function, value), ("BadNet", {"part": part}))

    def test_example(self):
        self.assertEqual(raised(degrees, (2, ((1, 0),))), ("BadNet", {"part": "ways"}))


class DegreesTest(unittest.TestCase):
    def test_example(self):
        self.assertEqual(degrees(BOW), (4, 2, 2, 2, 2))

    def test_ordinary_nets(self):
        self.assertEqual(degrees(FOUR), (3, 3, 3, 3))
        self.assertEqual(degrees((4, ((0, 2), (1, 2), (2, 3)))), (1, 1, 3, 1))
        self.assertEqual(degrees(SCATTERED), (2, 1, 0, 1, 2, 0, 0, 0, 2))

    def test_edges(self):
        self.assertEqual(degrees((1, ())), (0,))
        self.assertEqual(degrees((9, ())), (0,) * 9)
        self.assertEqual(degrees(full_net(9)), (8,) * 9)

    def test_all_nets_of_four_halls(self):
        for net in all_nets(4):
            told = tuple(sum(hall in way for way in net[1]) for hall in range(4))
            self.assertEqual(degrees(net), told, net)


class IsEvenTest(unittest.TestCase):
    def test_even_nets(self):
        for net in (BOW, TRIANGLE, full_net(5), full_net(9), (1, ()), (9, ()), (7, ((2, 3), (2, 5), (3, 5)))):
            with self.subTest(net=net):
                self.assertIs(is_even(net), True)

    def test_other_nets(self):
        for net in (FOUR, SCATTERED, full_net(8), (2, ((0, 1),)), (3, ((0, 1), (1, 2))), (9, ((7, 8),))):
            with self.subTest(net=net):
                self.assertIs(is_even(net), False)

    def test_all_nets_of_four_halls(self):
        for net in all_nets(4):
            told = all(sum(hall in way for way in net[1]) % 2 == 0 for hall in range(4))
            self.assertIs(is_even(net), told, net)


class PiecesTest(unittest.TestCase):
    def test_example(self):
        self.assertEqual(pieces((4, ((0, 2),))), ((0, 2), (1,), (3,)))

    def test_ordinary_nets(self):
        self.assertEqual(pieces(BOW), ((0, 1, 2, 3, 4),))
        self.assertEqual(pieces(SCATTERED), ((0, 4, 8), (1, 3), (2,), (5,), (6,), (7,)))
        self.assertEqual(pieces((5, ((0, 4), (1, 3), (3, 4)))), ((0, 1, 3, 4), (2,)))
        self.assertEqual(pieces((6, ((0, 5), (1, 4), (2, 3)))), ((0, 5), (1, 4), (2, 3)))

    def test_edges(self):
        self.assertEqual(pieces((1, ())), ((0,),))
        self.assertEqual(pieces((9, ())), tuple((hall,) for hall in range(9)))
        self.assertEqual(pieces(full_net(9)), (tuple(range(9)),))

    def test_long_line_of_halls(self):
        line = ((0, 8), (1, 7), (1, 8), (2, 6), (2, 7), (3, 5), (3, 6), (4, 5))
        self.assertEqual(pieces((9, line)), (tuple(range(9)),))

    def test_all_nets_of_five_halls(self):
        for net in all_nets(5):
            self.assertEqual(pieces(net), plain_pieces(net), net)


if __name__ == "__main__":
    unittest.main()
