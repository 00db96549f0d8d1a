"""Tours that go each way of a net just once and come back."""

from eventours.nets import is_even, is_hall, neighbours, pieces, way_between


def has_tour(net):
    """Tell whether there is a tour of the net."""
    joined = [piece for piece in pieces(net) if len(piece) > 1]
    return is_even(net) and len(joined) <= 1


def tour(net):
    """A tour of the net; None if it has none."""
    if not has_tour(net):
        return None
    left = neighbours(net)
    path = [some_end(net[1])]
    found = []
    while path:
        here = path[-1]
        if left[here]:
            hall = left[here].pop()
            left[hall].remove(here)
            path.append(hall)
        else:
            # All ways of here are gone, so what has been found follows on it.
            path.pop()
            found.append(here)
    return tuple(found)


def shows_tour(net, value):
    """Tell whether a value is what tour may return."""
    if has_tour(net):
        return is_tour(net, value)
    return value is None


def some_end(ways):
    """A hall that is an end of one of the ways; hall 0 if there are none."""
    return ways[0][0] if ways else 0


def is_tour(net, value):
    """Tell whether a value is a tour."""
    halls, ways = net
    if not isinstance(value, tuple) or len(value) == 0:
        return False
    if not all([is_hall(halls, hall) for hall in value]) or value[0] != value[-1]:
        return False
    gone = [way_between(x, y) for x, y in zip(value, value[1:])]
    return sorted(gone) == list(ways)
