"""Somebody who walks through a net."""

from eventours.errors import NoStep, NoWay
from eventours.nets import check_hall, check_net, way_between


class Walker:
    """Somebody in a hall of a net who goes each way once at most."""

    def __init__(self, net, hall):
        check_net(net)
        check_hall(net, hall)
        self._net = net
        self._path = [hall]
        self._gone = []

    def go(self, hall):
        """Go to a hall by a way that has not been gone."""
        check_hall(self._net, hall)
        way = way_between(self._path[-1], hall)
        if way not in self._net[1] or way in self._gone:
            raise NoWay()
        self._path.append(hall)
        self._gone.append(way)

    def undo(self):
        """Take the last step back."""
        if not self._gone:
            raise NoStep()
        self._path.pop()
        self._gone.pop()

    def missing(self):
        """How many ways have not been gone."""
        return len(self._net[1]) - len(self._gone)

    @property
    def path(self):
        """The tuple of the halls come to, the first one among them."""
        return tuple(self._path)

    @property
    def gone(self):
        """The tuple of the ways gone, in order."""
        return tuple(self._gone)
