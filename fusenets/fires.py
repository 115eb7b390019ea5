"""Fires: nets that are lit, and when their points burn."""

from math import lcm

from fusenets.errors import InvalidLights
from fusenets.lines import greatest
from fusenets.nets import scale_of, whole_fuses, whole_point
from fusenets.ratios import Ratio, as_ratio, in_order, is_number, parts, whole
from fusenets.spreading import lesser, node_times
from fusenets.stretches import stretches_of

MOST_LIGHTS = 20


def is_light(net, value):
    """Whether any value is a tuple of a point of the net and a time."""
    return isinstance(value, tuple) and len(value) == 2 and net.is_point(value[0]) and is_number(value[1])


def check_lights(net, value):
    """Raises InvalidLights unless any value is a list of lights."""
    if not isinstance(value, list) or not 1 <= len(value) <= MOST_LIGHTS:
        raise InvalidLights(None)
    for index, light in enumerate(value):
        if not is_light(net, light):
            raise InvalidLights(index)


def as_lights(net, lights):
    """Valid lights as they are returned."""
    return [(net.returned(point), as_ratio(time)) for point, time in lights]


def whole_lights(lights, scale):
    """Lights as they are returned, with numbers that the scale makes whole."""
    return [(whole_point(point, scale), whole(time, scale)) for point, time in lights]


class Fire:
    """A net that is lit at points, each at a time.

    Inside, numbers are multiplied by a unit that makes them whole multiples of twice the
    number of lights. So the index of a light is added to its time, and stays there while
    fire spreads: of several lights that give a node its time, the first one wins.
    """

    def __init__(self, net, lights):
        check_lights(net, lights)
        self._net = net
        self._lights = as_lights(net, lights)
        self._many = len(self._lights)
        self._unit = 2 * self._many * scale_of(net, self.numbers())
        self._fuses = whole_fuses(net, self._unit)
        told = whole_lights(self._lights, self._unit)
        self._marked = [(point, time + index) for index, (point, time) in enumerate(told)]
        self._marks = node_times(self._fuses, self._marked)
        self._stretches = None

    @property
    def net(self):
        """The net that is lit."""
        return self._net

    @property
    def lights(self):
        """The list of the lights, with points as they are returned."""
        return list(self._lights)

    def numbers(self):
        """All distances and times of the lights."""
        distances = [point[1] for point, _ in self._lights if not isinstance(point, str)]
        return distances + [time for _, time in self._lights]

    def unit(self):
        """What makes all times, and those halfway between them, whole."""
        return self._unit

    def __call__(self, point):
        return self._time_and_light(self._net.point(point))[0]

    def times(self):
        """A dict from all nodes to their times."""
        return {node: self._time_and_light(node)[0] for node in self._net.nodes}

    def source(self, point):
        """The least index of a light that gives a point its time, or None."""
        return self._time_and_light(self._net.point(point))[1]

    def _time_and_light(self, point):
        """The time of a point as it is returned, and the first light that gives it, or twice None."""
        factor = 1
        if isinstance(point, str):
            mark = self._marks.get(point)
        else:
            # The distance may need a finer unit; the index of the light stays as it is.
            factor = lcm(self._unit, self._many * parts(point[1])[1]) // self._unit
            mark = self._place_mark(point[0], whole(point[1], self._unit * factor), factor)
        if mark is None:
            return None, None
        index = mark % self._many
        return Ratio(mark - index, self._unit * factor), index

    def _place_mark(self, fuse, distance, factor):
        """The time of a place in a unit finer by a factor, and the index of its light added, or None."""
        one, other, size = self._fuses[fuse]
        ways = [(self._marks.get(one), distance), (self._marks.get(other), size * factor - distance)]
        for point, mark in self._marked:
            if not isinstance(point, str) and point[0] == fuse:
                ways.append((mark, abs(point[1] * factor - distance)))
        best = None
        for mark, length in ways:
            if mark is not None:
                index = mark % self._many
                best = lesser(best, (mark - index) * factor + index + length)
        return best

    def stretches(self):
        """The stretches of all fuses that burn, in the order of their places, in the fire's unit."""
        if self._stretches is None:
            lights = [(point, mark - mark % self._many) for point, mark in self._marked]
            times = {node: self._marks[node] - self._marks[node] % self._many for node in self._marks}
            self._stretches = stretches_of(self._fuses, lights, times)
        return list(self._stretches)

    def end(self):
        """The greatest time of all points of the net, or None."""
        rows = self._last_burning()
        if not rows:
            return None
        return Ratio(greatest([time for time, _ in rows]), self._unit)

    def last(self):
        """The list of all points that burn at the end."""
        rows = self._last_burning()
        if not rows:
            return []
        end = greatest([time for time, _ in rows])
        return [self._returned(point) for time, point in rows if time == end]

    def _returned(self, point):
        """A point in whole numbers as it is returned."""
        if isinstance(point, str):
            return point
        return point[0], Ratio(point[1], self._unit)

    def _last_burning(self):
        """All points that could be the last ones, as (time, point) in the order of points."""
        if len(self._marks) < len(self._net.nodes):
            return []
        rows = [(self._marks[node] - self._marks[node] % self._many, node) for node in self._net.nodes]
        for stretch in self.stretches():
            if stretch.low > 0:
                rows.append((stretch.low_time, (stretch.fuse, stretch.low)))
            if stretch.last_place() is not None:
                rows.append((stretch.last_time(), stretch.last_place()))
        return rows

    def meetings(self):
        """A list of (time, place) of all places inside fuses at which fire meets fire."""
        met = [stretch for stretch in self.stretches() if stretch.last_place() is not None]
        rows = in_order([(stretch.last_time(), stretch.last_place()) for stretch in met])
        return [(Ratio(time, self._unit), self._returned(place)) for time, place in rows]
