"""Nets of halls and ways: how many ways the halls have, and which halls ways join."""

from eventours.errors import BadHall, BadNet, BadWay

MOST_HALLS = 9


def is_net(value):
    """Tell whether a value is a net."""
    return wrong_part(value) is None


def degrees(net):
    """The tuple of how many ways each hall has."""
    check_net(net)
    return tuple(len(row) for row in neighbours(net))


def is_even(net):
    """Tell whether each hall has evenly many ways."""
    return all(many % 2 == 0 for many in degrees(net))


def pieces(net):
    """The ascending tuple of the lots of halls that ways lead to one another."""
    check_net(net)
    near = neighbours(net)
    found = []
    # The least hall of each piece comes first, so the pieces come ascending.
    for hall in range(len(near)):
        if not any([hall in piece for piece in found]):
            found.append(halls_led_to(near, hall))
    return tuple(found)


def check_net(value):
    """Raise BadNet if a value is no net."""
    part = wrong_part(value)
    if part is not None:
        raise BadNet(part)


def check_hall(net, value):
    """Raise BadHall if a value is no hall of the net."""
    if not is_hall(net[0], value):
        raise BadHall()


def check_way(net, value):
    """Raise BadWay if a value is no way of the net."""
    # In Python (False, True) equals (0, 1), so looking among the ways is not enough.
    if not is_pair(net[0], value) or value not in net[1]:
        raise BadWay()


def neighbours(net):
    """The list that has, for each hall, the ascending list of the halls joined to it."""
    halls, ways = net
    near = [[] for hall in range(halls)]
    # As the ways ascend, each of the lists does.
    for x, y in ways:
        near[x].append(y)
        near[y].append(x)
    return near


def wrong_part(value):
    """The word for what is wrong first with a value as a net; None for a net."""
    if not isinstance(value, tuple) or len(value) != 2:
        return "whole"
    halls, ways = value
    if not is_number(halls) or not 1 <= halls <= MOST_HALLS:
        return "halls"
    if not are_ways(halls, ways):
        return "ways"
    return None


def are_ways(halls, value):
    """Tell whether a value is an ascending tuple of unlike ways between so many halls."""
    if not isinstance(value, tuple):
        return False
    if not all([is_pair(halls, way) for way in value]):
        return False
    return all([way < following for way, following in zip(value, value[1:])])


def is_pair(halls, value):
    """Tell whether a value is a pair (x, y) of so many halls, x less than y."""
    if not isinstance(value, tuple) or len(value) != 2:
        return False
    x, y = value
    return is_hall(halls, x) and is_hall(halls, y) and x < y


def is_hall(halls, value):
    """Tell whether a value is one of so many halls."""
    return is_number(value) and 0 <= value < halls


def is_number(value):
    """Tell whether a value is an integer; True and False are none."""
    return isinstance(value, int) and not isinstance(value, bool)


def way_between(x, y):
    """The pair of two halls, the lesser one first."""
    return (min(x, y), max(x, y))


def halls_led_to(near, start):
    """The ascending tuple of the halls that ways lead to from a hall, with itself."""
    seen = {start}
    ahead = [start]
    while ahead:
        hall = ahead.pop()
        for other in near[hall]:
            if other not in seen:
                seen.add(other)
                ahead.append(other)
    return tuple(sorted(seen))
