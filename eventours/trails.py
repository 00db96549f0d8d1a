"""Trails from one end of a way to the other, without it."""

from eventours.errors import TooMany
from eventours.nets import check_net, check_way, halls_led_to, is_number, neighbours

MOST_TRAILS = 20000


def trails(net, way):
    """The ascending tuple of all trails from one end of a way to the other."""
    check_net(net)
    check_way(net, way)
    start, goal = way
    found = []
    add_trails(without(neighbours(net), start, goal), (start,), goal, found)
    return tuple(found)


def paths(net, way):
    """The ascending tuple of the trails in which no hall stands twice."""
    return tuple(trail for trail in trails(net, way) if second_stand(trail) is None)


def turned(net, way, trail):
    """The trail with the part between the first two stands of one hall turned round."""
    found = trails(net, way)
    # In Python (False, 2, True) equals (0, 2, 1), so looking among the trails is not enough.
    if not is_tuple_of_numbers(trail) or trail not in found:
        return None
    second = second_stand(trail)
    if second is None:
        return None
    first = trail.index(trail[second])
    return trail[:first + 1] + trail[first + 1:second][::-1] + trail[second:]


def add_trails(near, path, goal, found):
    """Add to those found the trails to a goal that begin with a path, ascending."""
    here = path[-1]
    if here == goal:
        if len(found) == MOST_TRAILS:
            raise TooMany(MOST_TRAILS)
        found.append(path)
    # Without this there may be few trails, but too many dead ends to go through.
    elif goal in halls_led_to(near, here):
        for hall in near[here]:
            add_trails(without(near, here, hall), path + (hall,), goal, found)


def without(near, x, y):
    """The lists of the halls joined to each hall, without the way between two of them."""
    rest = list(near)
    rest[x] = [hall for hall in near[x] if hall != y]
    rest[y] = [hall for hall in near[y] if hall != x]
    return rest


def second_stand(trail):
    """Where in a trail a hall first stands that stood ahead; None if none does."""
    for at, hall in enumerate(trail):
        if hall in trail[:at]:
            return at
    return None


def is_tuple_of_numbers(value):
    """Tell whether a value is a tuple of integers."""
    return isinstance(value, tuple) and all([is_number(hall) for hall in value])
