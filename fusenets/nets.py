"""Nets of fuses, their nodes and points."""

from math import lcm

from fusenets.errors import InvalidFuse, InvalidNet, InvalidNumber, InvalidPoint
from fusenets.ratios import Ratio, as_ratio, common_bottom, is_integer, is_number, is_positive, total, whole
from fusenets.spreading import node_times, time_at

MOST_NODES = 30
MOST_FUSES = 40
LONGEST_WORD = 8


def is_word(value):
    """Whether any value is a text of 1 to 8 lowercase letters."""
    if not isinstance(value, str) or not 1 <= len(value) <= LONGEST_WORD:
        return False
    return all(["a" <= letter <= "z" for letter in value])


def are_nodes(value):
    """Whether any value is a list of different nodes for a net."""
    if not isinstance(value, list) or not 1 <= len(value) <= MOST_NODES:
        return False
    return all([is_word(node) for node in value]) and len(set(value)) == len(value)


def is_fuse(nodes, value):
    """Whether any value is a fuse between some nodes."""
    if not isinstance(value, tuple) or len(value) != 3:
        return False
    ends = value[:2]
    return all([isinstance(end, str) and end in nodes for end in ends]) and is_positive(value[2])


def are_fuses(nodes, value):
    """Whether any value is a list of fuses between some nodes."""
    if not isinstance(value, list) or len(value) > MOST_FUSES:
        return False
    return all([is_fuse(nodes, fuse) for fuse in value])


def is_index(value, number):
    """Whether any value is the index of one of a number of things."""
    return is_integer(value) and 0 <= value < number


def check_fuse(net, value):
    """Raises InvalidFuse unless any value is the index of a fuse."""
    if not is_index(value, len(net)):
        raise InvalidFuse(value)


def scale_of(net, numbers):
    """What makes all lengths of a net and some numbers whole."""
    return lcm(net.own_scale(), common_bottom(numbers))


def whole_point(point, scale):
    """A point as it is returned, with its distance multiplied by the scale."""
    if isinstance(point, str):
        return point
    return point[0], whole(point[1], scale)


def whole_fuses(net, scale):
    """The fuses of a net with lengths that the scale, a multiple of their bottoms, makes whole."""
    factor = scale // net.own_scale()
    return [(one, other, size * factor) for one, other, size in net.own_fuses()]


class Net:
    """Nodes, and fuses between them."""

    def __init__(self, nodes, fuses):
        if not are_nodes(nodes):
            raise InvalidNet("nodes")
        if not are_fuses(nodes, fuses):
            raise InvalidNet("fuses")
        self._nodes = list(nodes)
        self._fuses = [(one, other, as_ratio(length)) for one, other, length in fuses]
        self._own_scale = common_bottom([length for _, _, length in self._fuses])
        self._own_fuses = [(one, other, whole(length, self._own_scale)) for one, other, length in self._fuses]

    @property
    def nodes(self):
        """The list of the nodes."""
        return list(self._nodes)

    @property
    def fuses(self):
        """The list of the fuses."""
        return list(self._fuses)

    @property
    def length(self):
        """The sum of the lengths of all fuses."""
        return total([length for _, _, length in self._fuses])

    def __contains__(self, value):
        return isinstance(value, str) and value in self._nodes

    def __eq__(self, other):
        return isinstance(other, Net) and self._nodes == other._nodes and self._fuses == other._fuses

    def __len__(self):
        return len(self._fuses)

    def __mul__(self, other):
        if not is_positive(other):
            raise InvalidNumber(other)
        return Net(self._nodes, [(first, second, length * other) for first, second, length in self._fuses])

    def own_scale(self):
        """The least number that makes all lengths whole."""
        return self._own_scale

    def own_fuses(self):
        """The list of the fuses with lengths that this number makes whole."""
        return list(self._own_fuses)

    def is_point(self, value):
        """Whether any value is a point."""
        return value in self or self._is_place(value)

    def _is_place(self, value):
        if not isinstance(value, tuple) or len(value) != 2:
            return False
        fuse, distance = value
        if not is_index(fuse, len(self._fuses)) or not is_number(distance):
            return False
        return 0 <= distance <= self._fuses[fuse][2]

    def point(self, value):
        """The same point as it is returned: the node if there is one."""
        if not self.is_point(value):
            raise InvalidPoint(value)
        return self.returned(value)

    def returned(self, point):
        """The same point as it is returned, for a valid one."""
        if isinstance(point, str):
            return point
        fuse, distance = point
        one, other, length = self._fuses[fuse]
        if distance == 0:
            return one
        if distance == length:
            return other
        return fuse, as_ratio(distance)

    def distance(self, one, other):
        """The length of a shortest way between two points, or None."""
        points = [self.point(one), self.point(other)]
        scale = scale_of(self, [point[1] for point in points if not isinstance(point, str)])
        fuses = whole_fuses(self, scale)
        start, goal = [whole_point(point, scale) for point in points]
        length = time_at(fuses, [(start, 0)], node_times(fuses, [(start, 0)]), goal)
        if length is None:
            return None
        return Ratio(length, scale)

    def is_connected(self):
        """Whether there is a way between any two nodes."""
        return len(node_times(self._own_fuses, [(self._nodes[0], 0)])) == len(self._nodes)

    def is_tree(self):
        """Whether the net is connected, with one fuse less than nodes."""
        return len(self._fuses) == len(self._nodes) - 1 and self.is_connected()
