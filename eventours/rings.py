"""The rings of a net, and how many of them each way lies on."""

from eventours.errors import TooMany
from eventours.nets import check_net, check_way, neighbours, way_between

MOST_RINGS = 20000


def rings(net):
    """The ascending tuple of all rings."""
    check_net(net)
    near = neighbours(net)
    found = []
    for least in range(len(near)):
        add_rings(near, (least,), found)
    return tuple(found)


def counts(net):
    """The tuple of how many rings each way lies on, the ways ascending."""
    check_net(net)
    many = {way: 0 for way in net[1]}
    for ring in rings(net):
        for way in ways_on(ring):
            many[way] += 1
    return tuple(many[way] for way in net[1])


def rings_through(net, way):
    """The ascending tuple of the rings on which a way lies."""
    check_net(net)
    check_way(net, way)
    return tuple(ring for ring in rings(net) if way in ways_on(ring))


def all_odd(net):
    """Tell whether each way lies on an odd number of rings."""
    return all(many % 2 == 1 for many in counts(net))


def add_rings(near, path, found):
    """Add to those found the rings that begin with a path, ascending."""
    if is_ring(near, path):
        if len(found) == MOST_RINGS:
            raise TooMany(MOST_RINGS)
        found.append(path)
    for hall in near[path[-1]]:
        # A ring is told from its least hall on.
        if hall > path[0] and hall not in path:
            add_rings(near, path + (hall,), found)


def is_ring(near, path):
    """Tell whether a path from its least hall on is told as a ring is."""
    # Of the two ways round, the one to the lesser neighbour is the one that is told.
    return len(path) > 2 and path[0] in near[path[-1]] and path[1] < path[-1]


def ways_on(ring):
    """The list of the ways between neighbours in a ring."""
    return [way_between(x, y) for x, y in zip(ring, ring[1:] + ring[:1])]
