"""Partings of all ways of a net into rings."""

from eventours.errors import NotEven, TooMany
from eventours.nets import check_net, is_even, is_number, neighbours
from eventours.rings import rings, ways_on

MOST_WAYS = 18


def parting(net):
    """A parting of the net; None if it has none."""
    if not is_even(net):
        return None
    left = net[1]
    found = []
    while left:
        ring = some_ring((net[0], left))
        found.append(ring)
        lot = ways_on(ring)
        left = tuple(way for way in left if way not in lot)
    return tuple(sorted(found))


def shows_parting(net, value):
    """Tell whether a value is what parting may return."""
    if is_even(net):
        return is_parting(net, value)
    return value is None


def count_partings(net):
    """How many partings there are."""
    check_net(net)
    return sum(partings_by_size(net))


def fewest_rings(net):
    """The least number of rings of a parting of an even net."""
    if not is_even(net):
        raise NotEven()
    sizes = [size for size, many in enumerate(partings_by_size(net)) if many > 0]
    return sizes[0]


def some_ring(net):
    """A ring of an even net that has ways."""
    near = neighbours(net)
    path = list(net[1][0])
    while path[-1] not in path[:-1]:
        # There is a way on from each hall that one comes to, as it has two at least.
        ahead = [hall for hall in near[path[-1]] if hall != path[-2]]
        path.append(ahead[0])
    return told_ring(path[path.index(path[-1]):-1])


def told_ring(halls):
    """The ring that goes round a list of halls, told from its least hall on."""
    at = halls.index(min(halls))
    ring = halls[at:] + halls[:at]
    if ring[1] > ring[-1]:
        ring = ring[:1] + ring[:0:-1]
    return tuple(ring)


def is_parting(net, value):
    """Tell whether a value is a parting."""
    if not isinstance(value, tuple) or not all([is_told_ring(ring) for ring in value]):
        return False
    gone = [way for ring in value for way in ways_on(ring)]
    return list(value) == sorted(value) and list(net[1]) == sorted(gone)


def is_told_ring(value):
    """Tell whether a value is told as a ring is, whether or not its halls are joined."""
    if not isinstance(value, tuple) or len(value) < 3:
        return False
    if not all([is_number(hall) for hall in value]) or len(set(value)) < len(value):
        return False
    return value[0] == min(value) and value[1] < value[-1]


def partings_by_size(net):
    """The list of how many partings have no ring, one ring, two rings, .."""
    if len(net[1]) > MOST_WAYS:
        raise TooMany(MOST_WAYS)
    lots = lots_of_rings(net)
    # Kept by the ways that are left: in how many choices of rings they are left.
    begun = {net[1]: 1}
    found = []
    while begun:
        found.append(begun.pop((), 0))
        begun = with_one_ring_more(begun, lots)
    return found


def lots_of_rings(net):
    """The dict that has, for each way, the lots of the rings of which it is the least way."""
    lots = {way: [] for way in net[1]}
    for ring in rings(net):
        lot = ways_on(ring)
        lots[min(lot)].append(lot)
    return lots


def with_one_ring_more(begun, lots):
    """What partings_by_size keeps, when one ring more has been chosen."""
    found = {}
    for left, many in begun.items():
        # The next ring is the one of the least way left, so no choice comes in two orders.
        for lot in lots[left[0]]:
            if all([way in left for way in lot]):
                rest = tuple(way for way in left if way not in lot)
                found[rest] = found.get(rest, 0) + many
    return found
