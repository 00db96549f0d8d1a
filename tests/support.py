"""Nets, wrong values and slow but plain answers that several tests use."""

from itertools import combinations, permutations

BOW = (5, ((0, 1), (0, 2), (0, 3), (0, 4), (1, 2), (3, 4)))
FOUR = (4, ((0, 1), (0, 2), (0, 3), (1, 2), (1, 3), (2, 3)))
TRIANGLE = (3, ((0, 1), (0, 2), (1, 2)))
# A ring and a way apart, and halls that no way touches.
SCATTERED = (9, ((0, 4), (0, 8), (1, 3), (4, 8)))

WRONG_WHOLES = (
    0, 3, True, False, None, "", "net", (), (3,), (3, (), ()), ((3, ()),),
    [], [3, ()], [3, ((0, 1),)], {}, {3: ()}, {0: 3, 1: ()}, "3(",
)
WRONG_HALLS = (
    (0, ()), (-1, ()), (10, ()), (10 ** 30, ()), (-(10 ** 30), ()),
    (True, ()), (False, ()), (None, ()), ("3", ()), ("", ()), ((), ()),
    ((3,), ()), ([3], ()), ({3: 3}, ()),
    (True, ((0, 1),)), (0, None), (10, ((1, 0),)), ("3", [1]), ((0, 1), 2),
)
WRONG_WAYS = (
    # No tuple.
    (3, 0), (3, 1), (3, True), (3, None), (3, ""), (3, "01"), (3, []), (3, {}),
    (3, [(0, 1)]), (3, {(0, 1): True}),
    # A way that is no pair.
    (3, (0, 1)), (3, (None,)), (3, (True,)), (3, ("01",)), (3, ([0, 1],)),
    (3, ({0: 1, 1: 2},)), (3, ((),)), (3, ((0,),)), (3, ((0, 1, 2),)),
    (3, ((0, 1), 2)), (3, (((0, 1),),)),
    # A pair that is not of integers.
    (3, ((0, "1"),)), (3, (("0", 1),)), (3, ((0, None),)), (3, ((None, 1),)),
    (3, ((0, (1,)),)), (3, ((0, [1]),)), (3, (({}, 1),)),
    (3, ((False, True),)), (3, ((0, True),)), (3, ((False, 2),)),
    (3, ((True, 2),)), (3, ((0, 1), (0, 2), (True, 2))),
    # A pair that is not of halls, or not x less than y.
    (3, ((0, 3),)), (3, ((-1, 1),)), (3, ((-2, -1),)), (1, ((0, 1),)),
    (9, ((0, 9),)), (9, ((8, 9),)), (9, ((0, 10 ** 30),)),
    (2, ((1, 0),)), (3, ((1, 1),)), (1, ((0, 0),)), (3, ((0, 1), (2, 1))),
    # Not ascending, or a way twice.
    (3, ((0, 2), (0, 1))), (3, ((1, 2), (0, 1))), (3, ((0, 1), (1, 2), (0, 2))),
    (3, ((0, 1), (0, 1))), (3, ((0, 1), (0, 2), (0, 2))),
)
# (1, 3), (0, 3) are pairs of halls, but no ways of it.
TAILED = (5, ((0, 1), (0, 2), (1, 2), (2, 3), (3, 4)))
WRONG_WAYS_OF_TAILED = (
    (1, 0), (0, 0), (0, 3), (1, 3), (3, 9), (-1, 1), (0, 10 ** 30),
    (False, True), (False, 1), (0, True), (True, 2),
    0, 1, True, False, None, "", "01", (), (0,), (0, 1, 2), (0, "1"), (0, None),
    ((0, 1),), (0, (1,)), (0, [1]), [0, 1], [], {}, {0: 1}, {(0, 1): True},
)
WRONG_LOTS_OF_TAILED = (
    # No tuple, or a tuple of other things than pairs.
    0, 1, True, False, None, "", "01", [], {}, [(0, 1)], [(0, 1), (0, 2)], {(0, 1): True},
    (0,), (0, 1), (None,), (True,), ("",), ("01",), ([0, 1],), ((),), ((0,),), ((0, 1, 2),),
    (((0, 1),),), ((0, 1), None), ((0, 1), ()), (((0, 1), (0, 2)),), ({0: 1},),
    # Pairs that are no ways.
    ((0, 3),), ((1, 3),), ((0, 1), (0, 4)), ((0, 1), (0, 2), (0, 3)), ((3, 9),), ((-1, 1),),
    ((1, 0),), ((0, 0),), ((0, 1), (2, 1)), ((0, 10 ** 30),),
    ((False, True),), ((False, 1),), ((0, True),), ((0, 1), (0, 2), (True, 2)),
    ((0, "1"),), ((0, None),), ((0, [1]),), ((0, (1,)),), (({}, 1),),
    # Not ascending, or a way twice.
    ((0, 2), (0, 1)), ((0, 1), (1, 2), (0, 2)), ((3, 4), (2, 3)),
    ((0, 1), (0, 1)), ((0, 1), (0, 2), (0, 2)), ((0, 1), (0, 2), (0, 1)),
)
WRONG_NETS = (
    [("whole", value) for value in WRONG_WHOLES]
    + [("halls", value) for value in WRONG_HALLS]
    + [("ways", value) for value in WRONG_WAYS]
)


def pairs_of(halls):
    """All pairs of so many halls, ascending."""
    return tuple(combinations(range(halls), 2))


def full_net(halls):
    """The net in which all halls are joined."""
    return halls, pairs_of(halls)


def net_without(halls, lacking):
    """The full net without some ways."""
    return halls, tuple(pair for pair in pairs_of(halls) if pair not in lacking)


def all_nets(halls):
    """All nets of so many halls."""
    pairs = pairs_of(halls)
    return [
        (halls, ways)
        for many in range(len(pairs) + 1)
        for ways in combinations(pairs, many)
    ]


def even_nets(halls):
    """All nets of so many halls each of which has evenly many ways."""
    return [net for net in all_nets(halls) if has_even_halls(net)]


def has_even_halls(net):
    """Tell whether each hall is an end of evenly many ways."""
    ends = [hall for way in net[1] for hall in way]
    return all(ends.count(hall) % 2 == 0 for hall in range(net[0]))


def ways_round(ring):
    """The ways on a ring, as a list."""
    return [
        tuple(sorted((ring[at - 1], ring[at]))) for at in range(len(ring))
    ]


def plain_rings(net):
    """The rings by trying all orders of all lots of halls."""
    found = []
    for many in range(3, net[0] + 1):
        for order in permutations(range(net[0]), many):
            told_so = order[0] == min(order) and order[1] < order[-1]
            if told_so and all(way in net[1] for way in ways_round(order)):
                found.append(order)
    return tuple(sorted(found))


def plain_pieces(net):
    """The pieces by joining the lots of the ends of each way."""
    lots = [{hall} for hall in range(net[0])]
    for x, y in net[1]:
        one = next(lot for lot in lots if x in lot)
        other = next(lot for lot in lots if y in lot)
        if one is not other:
            lots = [lot for lot in lots if lot is not one and lot is not other]
            lots.append(one | other)
    return tuple(sorted(tuple(sorted(lot)) for lot in lots))


def plain_partings(net):
    """The partings by choosing, for the first way left, each ring on which it lies."""
    rings = [(ring, set(ways_round(ring))) for ring in plain_rings(net)]

    def partings_of(left):
        if not left:
            return [()]
        return [
            (ring, *others)
            for ring, lot in rings
            if min(left) in lot and lot <= left
            for others in partings_of(left - lot)
        ]

    return tuple(sorted(tuple(sorted(found)) for found in partings_of(set(net[1]))))


def plain_trails(net, way):
    """The trails by trying all halls as the next one, without looking ahead."""
    begun = [(way[0],)]
    found = []
    while begun:
        further = [path + (hall,) for path in begun for hall in range(net[0])]
        trails = [path for path in further if is_trail(net, way, path)]
        found += [path for path in trails if path[-1] == way[1]]
        begun = [path for path in trails if path[-1] != way[1]]
    return tuple(sorted(found))


def is_trail(net, way, path):
    """Tell whether a path goes ways of the net other than one way, each once at most."""
    gone = [tuple(sorted(step)) for step in zip(path, path[1:])]
    return way not in gone and len(set(gone)) == len(gone) and set(gone) <= set(net[1])


def plain_lots(net):
    """All lots of ways of a net, ascending."""
    ways = net[1]
    return tuple(sorted(
        lot for many in range(len(ways) + 1) for lot in combinations(ways, many)
    ))


def plain_forest(net):
    """The forest by the pieces of the net with the ways ahead of each way."""
    halls, ways = net
    ahead = [plain_pieces((halls, ways[:at])) for at in range(len(ways))]
    return tuple(
        way for way, pieces in zip(ways, ahead)
        if not any(set(way) <= set(piece) for piece in pieces)
    )


def raised(call, *arguments):
    """The name and the fields of the error that a call raises; None without one."""
    try:
        call(*arguments)
    except Exception as error:
        return type(error).__name__, vars(error)
    return None
