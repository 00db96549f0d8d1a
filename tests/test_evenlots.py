"""Point 6: lots of ways, the forest and even lots."""

import unittest

from eventours.evenlots import (
    count_even_lots, even_by, even_lots, forest, is_even_lot, outside, summed,
)

from support import (
    BOW, FOUR, SCATTERED, TAILED, TRIANGLE, WRONG_LOTS_OF_TAILED, WRONG_NETS, all_nets,
    full_net, has_even_halls, net_without, plain_forest, plain_lots, raised,
)

TOO_MANY = ("TooMany", {"most": 4096})
# The ways outside the forest are 12 and 13.
JUST_FEW_ENOUGH = net_without(7, ((0, 5), (1, 6), (3, 4)))
JUST_TOO_MANY = net_without(7, ((0, 5), (1, 6)))
SOME_NETS = all_nets(4) + all_nets(5)[::29] + [BOW, SCATTERED]


def plain_even_lots(net):
    """The even lots among all lots."""
    return tuple(lot for lot in plain_lots(net) if has_even_halls((net[0], lot)))


class IsEvenLotTest(unittest.TestCase):
    def test_example(self):
        self.assertEqual(raised(is_even_lot, (3, ((0, 1),)), ((0, 2),)), ("BadLot", {}))

    def test_ordinary_lots(self):
        self.assertIs(is_even_lot(FOUR, ((0, 1), (0, 2), (1, 2))), True)
        self.assertIs(is_even_lot(FOUR, ((0, 1), (0, 3), (1, 2), (2, 3))), True)
        self.assertIs(is_even_lot(BOW, BOW[1]), True)
        self.assertIs(is_even_lot(FOUR, FOUR[1]), False)
        self.assertIs(is_even_lot(FOUR, ((0, 1), (0, 2))), False)
        self.assertIs(is_even_lot(TAILED, ((3, 4),)), False)

    def test_void_lot(self):
        for net in (FOUR, (1, ()), (9, ())):
            self.assertIs(is_even_lot(net, ()), True)

    def test_all_lots(self):
        for net in SOME_NETS:
            for lot in plain_lots(net):
                self.assertIs(is_even_lot(net, lot), has_even_halls((net[0], lot)), (net, lot))


class SummedTest(unittest.TestCase):
    def test_examples(self):
        self.assertEqual(summed(FOUR, ((0, 1),), ((0, 1), (0, 2))), ((0, 2),))
        self.assertEqual(summed(FOUR, ((0, 3), (2, 3)), ((0, 1), (1, 2))), ((0, 1), (0, 3), (1, 2), (2, 3)))

    def test_void_lots(self):
        self.assertEqual(summed(FOUR, (), ()), ())
        self.assertEqual(summed(FOUR, FOUR[1], ()), FOUR[1])
        self.assertEqual(summed(FOUR, (), FOUR[1]), FOUR[1])
        self.assertEqual(summed(FOUR, FOUR[1], FOUR[1]), ())
        self.assertEqual(summed((1, ()), (), ()), ())

    def test_all_pairs_of_lots(self):
        for net in (FOUR, TAILED, SCATTERED):
            for one in plain_lots(net):
                for other in plain_lots(net):
                    told = tuple(way for way in net[1] if (way in one) != (way in other))
                    self.assertEqual(summed(net, one, other), told)


class ForestTest(unittest.TestCase):
    def test_example(self):
        self.assertEqual(forest(FOUR), ((0, 1), (0, 2), (0, 3)))

    def test_ordinary_nets(self):
        self.assertEqual(forest(BOW), ((0, 1), (0, 2), (0, 3), (0, 4)))
        self.assertEqual(forest(TAILED), ((0, 1), (0, 2), (2, 3), (3, 4)))
        self.assertEqual(forest(SCATTERED), ((0, 4), (0, 8), (1, 3)))
        net = (6, ((0, 4), (0, 5), (1, 2), (1, 3), (2, 3), (2, 4), (4, 5)))
        self.assertEqual(forest(net), ((0, 4), (0, 5), (1, 2), (1, 3), (2, 4)))
        net = (6, ((0, 5), (1, 2), (1, 5), (2, 5), (3, 4), (3, 5), (4, 5)))
        self.assertEqual(forest(net), ((0, 5), (1, 2), (1, 5), (3, 4), (3, 5)))

    def test_edges(self):
        self.assertEqual(forest((1, ())), ())
        self.assertEqual(forest((9, ())), ())
        self.assertEqual(forest((2, ((0, 1),))), ((0, 1),))
        self.assertEqual(forest(full_net(9)), tuple((0, hall) for hall in range(1, 9)))

    def test_all_nets_of_five_halls(self):
        for halls in range(1, 6):
            for net in all_nets(halls):
                self.assertEqual(forest(net), plain_forest(net), net)


class OutsideTest(unittest.TestCase):
    def test_example(self):
        self.assertEqual(outside(FOUR, ((0, 1), (1, 2))), ((1, 2),))

    def test_edges(self):
        self.assertEqual(outside(FOUR, ()), ())
        self.assertEqual(outside((9, ()), ()), ())
        self.assertEqual(outside(FOUR, ((0, 1), (0, 2), (0, 3))), ())
        self.assertEqual(outside(FOUR, FOUR[1]), ((1, 2), (1, 3), (2, 3)))
        self.assertEqual(outside(SCATTERED, SCATTERED[1]), ((4, 8),))

    def test_all_lots(self):
        for net in SOME_NETS:
            trees = plain_forest(net)
            for lot in plain_lots(net):
                told = tuple(way for way in lot if way not in trees)
                self.assertEqual(outside(net, lot), told, (net, lot))


class EvenByTest(unittest.TestCase):
    def test_example(self):
        self.assertEqual(even_by(FOUR, ((1, 2), (2, 3))), ((0, 1), (0, 3), (1, 2), (2, 3)))

    def test_edges(self):
        self.assertEqual(even_by(FOUR, ()), ())
        self.assertEqual(even_by(FOUR, ((0, 1), (0, 2), (0, 3))), ())
        self.assertEqual(even_by((9, ()), ()), ())
        self.assertEqual(even_by(BOW, BOW[1]), BOW[1])
        self.assertEqual(even_by(TRIANGLE, ((1, 2),)), TRIANGLE[1])

    def test_one_of_several_pieces(self):
        net = (8, ((0, 2), (0, 4), (1, 3), (1, 5), (2, 4), (3, 5), (6, 7)))
        self.assertEqual(even_by(net, ((3, 5), (6, 7))), ((1, 3), (1, 5), (3, 5)))
        self.assertEqual(even_by(net, ((2, 4), (3, 5))), net[1][:6])

    def test_all_lots(self):
        for net in SOME_NETS:
            trees = plain_forest(net)
            by_rest = {}
            for lot in plain_even_lots(net):
                by_rest[tuple(way for way in lot if way not in trees)] = lot
            for lot in plain_lots(net):
                told = by_rest[tuple(way for way in lot if way not in trees)]
                self.assertEqual(even_by(net, lot), told, (net, lot))

    def test_nine_halls(self):
        net = full_net(9)
        for lot in (net[1], net[1][::2], net[1][::3], net[1][20:]):
            found = even_by(net, lot)
            self.assertEqual(found, tuple(sorted(set(found))))
            self.assertTrue(has_even_halls((9, found)))
            self.assertEqual(
                [way for way in found if way[0] > 0], [way for way in lot if way[0] > 0]
            )


class EvenLotsTest(unittest.TestCase):
    def test_example(self):
        self.assertEqual(even_lots(TRIANGLE), ((), ((0, 1), (0, 2), (1, 2))))

    def test_nets_without_rings(self):
        for net in ((1, ()), (9, ()), (2, ((0, 1),)), (4, ((0, 1), (0, 2), (0, 3)))):
            with self.subTest(net=net):
                self.assertEqual(even_lots(net), ((),))

    def test_against_all_lots(self):
        for net in SOME_NETS + [TAILED, full_net(5)]:
            self.assertEqual(even_lots(net), plain_even_lots(net), net)

    def test_just_few_enough(self):
        found = even_lots(JUST_FEW_ENOUGH)
        self.assertEqual(len(found), 4096)
        self.assertEqual(found, tuple(sorted(set(found))))
        for lot in found:
            self.assertTrue(has_even_halls((7, lot)))
            self.assertEqual(lot, tuple(way for way in JUST_FEW_ENOUGH[1] if way in lot))

    def test_too_many(self):
        for net in (JUST_TOO_MANY, full_net(7), full_net(8), full_net(9)):
            with self.subTest(net=net):
                self.assertEqual(raised(even_lots, net), TOO_MANY)


class CountEvenLotsTest(unittest.TestCase):
    def test_examples(self):
        self.assertEqual(count_even_lots(FOUR), 8)
        self.assertEqual(count_even_lots(BOW), 4)
        self.assertEqual(count_even_lots(SCATTERED), 2)

    def test_nets_without_rings(self):
        for net in ((1, ()), (9, ()), (2, ((0, 1),)), (4, ((0, 1), (0, 2), (0, 3)))):
            self.assertEqual(count_even_lots(net), 1)

    def test_against_all_lots(self):
        for net in SOME_NETS + [TAILED, full_net(5)]:
            self.assertEqual(count_even_lots(net), len(plain_even_lots(net)), net)

    def test_without_limit(self):
        self.assertEqual(count_even_lots(JUST_FEW_ENOUGH), 4096)
        self.assertEqual(count_even_lots(JUST_TOO_MANY), 8192)
        self.assertEqual(count_even_lots(full_net(9)), 2 ** 28)


class ErrorsTest(unittest.TestCase):
    def test_bad_net(self):
        for function in (forest, even_lots, count_even_lots):
            for part, value in WRONG_NETS:
                with self.subTest(function=function.__name__, value=value):
                    self.assertEqual(raised(function, value), ("BadNet", {"part": part}))

    def test_bad_net_ahead_of_a_bad_lot(self):
        for part, value in WRONG_NETS:
            for lot in ((), ((0, 1),), ((1, 0),), None, [(0, 1)]):
                told = ("BadNet", {"part": part})
                with self.subTest(value=value, lot=lot):
                    for function in (is_even_lot, outside, even_by):
                        self.assertEqual(raised(function, value, lot), told)
                    self.assertEqual(raised(summed, value, lot, ()), told)
                    self.assertEqual(raised(summed, value, (), lot), told)

    def test_bad_lots(self):
        for lot in WRONG_LOTS_OF_TAILED:
            for function in (is_even_lot, outside, even_by):
                with self.subTest(function=function.__name__, lot=lot):
                    self.assertEqual(raised(function, TAILED, lot), ("BadLot", {}))

    def test_bad_lots_to_be_summed(self):
        for lot in WRONG_LOTS_OF_TAILED:
            for other in ((), ((0, 1), (2, 3)), None, ((0, 3),)):
                with self.subTest(lot=lot, other=other):
                    self.assertEqual(raised(summed, TAILED, lot, other), ("BadLot", {}))
                    self.assertEqual(raised(summed, TAILED, other, lot), ("BadLot", {}))

    def test_net_without_ways(self):
        for function in (is_even_lot, outside, even_by):
            self.assertEqual(raised(function, (9, ()), ((0, 1),)), ("BadLot", {}))
        self.assertEqual(raised(summed, (9, ()), (), ((0, 1),)), ("BadLot", {}))

    def test_no_limit_for_lots(self):
        net = full_net(9)
        self.assertIs(is_even_lot(net, net[1]), True)
        self.assertEqual(len(outside(net, net[1])), 28)
        self.assertEqual(summed(net, net[1], net[1][:8]), net[1][8:])


if __name__ == "__main__":
    unittest.main()
