"""Fires: nets that are lit, and when their points burn."""

from fusenets.errors import InvalidLights
from fusenets.nets import whole_point
from fusenets.ratios import Ratio, as_ratio, in_order, is_number, whole
from fusenets.spreading import node_times, time_at
from fusenets.stretches import stretches_of

MOST_LIGHTS = 20


def is_light(net, value):
    """Whether any value is a tuple of a point of the net and a time."""
    return isinstance(value, tuple) and len(value) == 2 and net.is_point(value[0]) and is_number(value[1])


def check_lights(net, value):
    """Raises InvalidLights unless any value is a list of lights."""
    if not isinstance(value, list) or not 1 <= len(value) <= MOST_LIGHTS:
        raise InvalidLights(None)
    for index, light in enumerate(value):
        if not is_light(net, light):
            raise InvalidLights(index)


def as_lights(net, lights):
    """Valid lights as they are returned."""
    return [(net.point(point), as_ratio(time)) for point, time in lights]


def whole_lights(lights, scale):
    """Lights as they are returned, with numbers that the scale makes whole."""
    return [(whole_point(point, scale), whole(time, scale)) for point, time in lights]


class Fire:
    """A net that is lit at points, each at a time."""

    def __init__(self, net, lights):
        check_lights(net, lights)
        self._net = net
        self._lights = as_lights(net, lights)
        self._times = node_times(net.fuses, self._lights)
        self._stretches = stretches_of(net.fuses, self._lights, self._times)

    @property
    def net(self):
        """The net that is lit."""
        return self._net

    @property
    def lights(self):
        """The list of the lights, with points as they are returned."""
        return list(self._lights)

    def numbers(self):
        """All distances and times of the lights."""
        distances = [point[1] for point, _ in self._lights if not isinstance(point, str)]
        return distances + [time for _, time in self._lights]

    def __call__(self, point):
        return time_at(self._net.fuses, self._lights, self._times, self._net.point(point))

    def times(self):
        """A dict from all nodes to their times."""
        return {node: self._times.get(node) for node in self._net.nodes}

    def source(self, point):
        """The least index of a light that gives a point its time, or None."""
        time = self(point)
        fuses = self._net.fuses
        origin = [(self._net.point(point), Ratio(0))]
        distances = node_times(fuses, origin)
        for index, (place, start) in enumerate(self._lights):
            distance = time_at(fuses, origin, distances, place)
            if distance is not None and start + distance == time:
                return index
        return None

    def stretches(self):
        """The stretches of all fuses that burn, in the order of their places."""
        return list(self._stretches)

    def end(self):
        """The greatest time of all points of the net, or None."""
        result = None
        for time, _ in self._last_burning():
            if result is None or time > result:
                result = time
        return result

    def last(self):
        """The list of all points that burn at the end."""
        end = self.end()
        return [point for time, point in self._last_burning() if time == end]

    def _last_burning(self):
        """All points that could be the last ones, as (time, point) in the order of points."""
        if len(self._times) < len(self._net.nodes):
            return []
        rows = [(self._times[node], node) for node in self._net.nodes]
        for stretch in self._stretches:
            if stretch.low > 0:
                rows.append((stretch.low_time, (stretch.fuse, stretch.low)))
            if stretch.last_place() is not None:
                rows.append((stretch.last_time(), stretch.last_place()))
        return rows

    def meetings(self):
        """A list of (time, place) of all places inside fuses at which fire meets fire."""
        met = [stretch for stretch in self._stretches if stretch.last_place() is not None]
        return in_order([(stretch.last_time(), stretch.last_place()) for stretch in met])
