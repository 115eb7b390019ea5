"""Ladders: very long rows of equal nets, each joined to the next one at two nodes.

Inside, all lengths are whole. A table has the distances from each of two nodes to each of
two others, None where there is no way; a step through equal links multiplies their tables.
"""

from fusenets.errors import InvalidJoin, InvalidNumber, InvalidPoint
from fusenets.joining import is_link_number
from fusenets.nets import is_index, scale_of, whole_fuses, whole_point
from fusenets.ratios import Ratio
from fusenets.spreading import lesser, node_times, time_at


def are_two(net, value):
    """Whether any value is a tuple of two different nodes."""
    if not isinstance(value, tuple) or len(value) != 2:
        return False
    return value[0] in net and value[1] in net and value[0] != value[1]


def check_ladder(net, left, right, number):
    """Raises the error of the first argument of a ladder that is not as described."""
    if not are_two(net, left):
        raise InvalidJoin(left)
    if not are_two(net, right) or right[0] in left or right[1] in left:
        raise InvalidJoin(right)
    if not is_link_number(number):
        raise InvalidNumber(number)


def added(one, other):
    """The sum of two lengths; None stands for no way."""
    if one is None or other is None:
        return None
    return one + other


def through(row, table):
    """The distances to two nodes from a point, from its distances to the two before them."""
    (straight, across), (back, ahead) = table
    one, other = row
    return (lesser(added(one, straight), added(other, back)), lesser(added(one, across), added(other, ahead)))


def after_steps(row, table, number):
    """The distances to two nodes behind so many equal links, from those to the two nodes before."""
    while number > 0:
        if number & 1:
            row = through(row, table)
        table = tuple([through(part, table) for part in table])
        number = number // 2
    return row


def distances_from(fuses, point, goals):
    """The distances from a point to others, None where there is no way."""
    sources = [(point, 0)]
    times = node_times(fuses, sources)
    return tuple([time_at(fuses, sources, times, goal) for goal in goals])


class Ladder:
    """A ladder of equal nets.

    All that lies before a link acts on it like one more fuse between its left nodes, and
    all that lies behind it like one between its right nodes. One link beside it is enough
    for this, since a way through a second one comes back through the first.
    """

    def __init__(self, net, left, right, number):
        check_ladder(net, left, right, number)
        self._link = net
        self._left = left
        self._right = right
        self._number = number

    def _check_spot(self, value):
        """Raises InvalidPoint unless any value is a spot."""
        if not isinstance(value, tuple) or len(value) != 2:
            raise InvalidPoint(value)
        if not is_index(value[0], self._number) or not self._link.is_point(value[1]):
            raise InvalidPoint(value)

    def _fuses_of(self, fuses, link):
        """The fuses of a link, with those for all that lies before and behind it."""
        found = list(fuses)
        if link > 0:
            found.extend(detour(fuses, self._right, self._left))
        if link < self._number - 1:
            found.extend(detour(fuses, self._left, self._right))
        return found

    def distance(self, one, other):
        """The length of a shortest way between two spots, or None."""
        self._check_spot(one)
        self._check_spot(other)
        if one[0] > other[0]:
            one, other = other, one
        points = [self._link.point(one[1]), self._link.point(other[1])]
        scale = scale_of(self._link, [point[1] for point in points if not isinstance(point, str)])
        start, goal = [whole_point(point, scale) for point in points]
        length = self._whole_distance(whole_fuses(self._link, scale), (one[0], start), (other[0], goal))
        if length is None:
            return None
        return Ratio(length, scale)

    def _whole_distance(self, fuses, one, other):
        """The distance of two spots in whole numbers, the first one not in a later link, or None."""
        link, start = one
        far_link, goal = other
        near_fuses = self._fuses_of(fuses, link)
        if link == far_link:
            return distances_from(near_fuses, start, [goal])[0]
        row = distances_from(near_fuses, start, self._right)
        inner = self._fuses_of(fuses, link + 1)
        if far_link - link > 1:
            table = tuple([distances_from(inner, node, self._right) for node in self._left])
            row = after_steps(row, table, far_link - link - 1)
        rest = distances_from(self._fuses_of(fuses, far_link), goal, self._left)
        return lesser(added(row[0], rest[0]), added(row[1], rest[1]))


def detour(fuses, inner, outer):
    """A fuse between two nodes, as long as the way through the next link; none if there is no way."""
    length = distances_from(fuses, inner[0], [inner[1]])[0]
    if length is None:
        return []
    return [(outer[0], outer[1], length)]
