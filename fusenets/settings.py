"""Settings: the net and the marks of a machine, and the parts into which its spots cut the fuses.

A spot is told by its index among all spots in the order of points, so nodes come first.
"""

from fusenets.nets import scale_of, whole_fuses, whole_point
from fusenets.parts import parts_of
from fusenets.ratios import Ratio
from fusenets.spreading import lesser

MOST_MARKS = 20


def is_mark(net, value):
    """Whether any value is a place strictly inside a fuse."""
    return net.is_point(value) and not isinstance(net.returned(value), str)


def are_marks(net, value):
    """Whether any value is a list of different places strictly inside fuses."""
    if not isinstance(value, list) or len(value) > MOST_MARKS:
        return False
    if not all([is_mark(net, mark) for mark in value]):
        return False
    places = [net.returned(mark) for mark in value]
    return all([places.index(place) == index for index, place in enumerate(places)])


class Span:
    """A part of a fuse between two neighbouring spots, and how fire has entered it at its ends.

    An entry is a tuple (time, cause), the cause an index in the log.
    """

    def __init__(self, fuse, ends, size):
        self.fuse = fuse
        self.ends = ends
        self.size = size
        self.entered = [None, None]

    def out_time(self):
        """The time at which all of the part has burnt by the known entries, or None."""
        times = [entry[0] for entry in self.entered if entry is not None]
        if not times:
            return None
        if len(times) == 1:
            return times[0] + self.size
        first, second = times
        if abs(first - second) >= self.size:
            return lesser(first, second) + self.size
        return (first + second + self.size).over(2)


class Setting:
    """A net with marks."""

    def __init__(self, net, marks):
        self.lit_net = net
        self.marks = [net.returned(mark) for mark in marks]
        self.scale = scale_of(net, [place[1] for place in self.marks])
        self.pieces = parts_of(whole_fuses(net, self.scale), [whole_point(place, self.scale) for place in self.marks])
        inside = [part.ends[0] for part in self.pieces if not isinstance(part.ends[0], str)]
        self.points = net.nodes + [(fuse, Ratio(distance, self.scale)) for fuse, distance in inside]
        self.indexes = {spot: index for index, spot in enumerate(net.nodes + inside)}

    def __eq__(self, other):
        return isinstance(other, Setting) and self.lit_net == other.lit_net and self.marks == other.marks

    def spot_of(self, value):
        """The index of the spot at any value, or None."""
        if not self.lit_net.is_point(value):
            return None
        point = self.lit_net.returned(value)
        if point not in self.points:
            return None
        return self.points.index(point)

    def mark_of(self, value):
        """The index of the spot at any value that is the place of a mark, or None."""
        spot = self.spot_of(value)
        if spot is None or isinstance(self.points[spot], str):
            return None
        return spot

    def new_spans(self):
        """The parts of all fuses, in the order of their places, none of them entered."""
        rows = []
        for part in self.pieces:
            ends = [self.indexes[spot] for spot in part.ends]
            rows.append(Span(part.fuse, ends, Ratio(part.size, self.scale)))
        return rows
