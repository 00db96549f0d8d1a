"""Lots of ways of which each hall has evenly many."""

from eventours.errors import BadLot, TooMany
from eventours.nets import are_ways, check_net, halls_led_to, is_even, neighbours

MOST_LOTS = 4096


def is_even_lot(net, lot):
    """Tell whether each hall has evenly many ways of a lot."""
    check_net(net)
    check_lot(net, lot)
    return is_even((net[0], lot))


def summed(net, one, other):
    """The lot of the ways that are in just one of two lots."""
    check_net(net)
    check_lot(net, one)
    check_lot(net, other)
    return in_just_one(one, other)


def forest(net):
    """The ascending tuple of the ways that join halls which no ways ahead lead to one another."""
    check_net(net)
    found = []
    for way in net[1]:
        x, y = way
        if y not in halls_led_to(neighbours((net[0], found)), x):
            found.append(way)
    return tuple(found)


def outside(net, lot):
    """The ascending tuple of the ways of a lot that are not in the forest."""
    check_net(net)
    check_lot(net, lot)
    trees = forest(net)
    return tuple(way for way in lot if way not in trees)


def even_by(net, lot):
    """The one even lot that has the same ways outside the forest as a lot."""
    kept = outside(net, lot)
    trees = forest(net)
    lacking = [way for way in trees if is_crossed_oddly(net[0], trees, way, kept)]
    return tuple(sorted(list(kept) + lacking))


def count_even_lots(net):
    """How many even lots there are."""
    check_net(net)
    # Each choice of ways outside the forest has just one even lot.
    return 1 << len(outside(net, net[1]))


def even_lots(net):
    """The ascending tuple of all even lots."""
    if count_even_lots(net) > MOST_LOTS:
        raise TooMany(MOST_LOTS)
    found = [()]
    for way in outside(net, net[1]):
        ring = even_by(net, (way,))
        found = found + [in_just_one(lot, ring) for lot in found]
    return tuple(sorted(found))


def check_lot(net, value):
    """Raise BadLot if a value is no lot of ways of the net."""
    if not are_ways(net[0], value) or not all([way in net[1] for way in value]):
        raise BadLot()


def in_just_one(one, other):
    """The ascending tuple of the ways that are in just one of two lots."""
    return tuple(sorted(set(one) ^ set(other)))


def is_crossed_oddly(halls, trees, way, kept):
    """Tell whether oddly many kept ways lead from one side of a way of the forest to the other."""
    # An even lot has evenly many ways between the sides, and the forest has but this one.
    rest = [other for other in trees if other != way]
    side = halls_led_to(neighbours((halls, rest)), way[0])
    crossing = [x for x, y in kept if (x in side) != (y in side)]
    return len(crossing) % 2 == 1
