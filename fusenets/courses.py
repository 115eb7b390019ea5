"""Courses: fires with delays, valves, cuts and lights that are set when a fuse has burnt out.

Inside, all numbers are whole: they are multiplied by their common bottom, and by two for
each trigger and once more, since fire meets fire halfway between the times before.
"""

from fusenets.fields import Field
from fusenets.nets import check_fuse, scale_of
from fusenets.ratios import Ratio, in_order, parts, whole
from fusenets.ruled import Ruled
from fusenets.rules import Rules, check_rules


class Course:
    """A fire with rules."""

    def __init__(self, fire, *, delays=None, valves=(), cuts=(), triggers=()):
        check_rules(fire, delays, valves, cuts, triggers)
        rules = Rules(fire.net, delays, valves, cuts, triggers)
        scale = 2 * scale_of(fire.net, fire.numbers() + rules.numbers())
        for _ in triggers:
            scale = scale * 2
        self._lit_net = fire.net
        self._scale = scale
        self._field = Field(fire, rules, scale)
        self._ruled = Ruled(self._field)

    def burnt_net(self):
        """The net of the course."""
        return self._lit_net

    def inside(self):
        """The field over which fire has spread, in whole numbers."""
        return self._field

    def spot_times(self):
        """A dict from all spots that burn to their times, in whole numbers."""
        return {spot: self._ruled.burnt_at[spot] for spot in self._ruled.burnt_at}

    def _told(self, time):
        """A time as it is returned."""
        if time is None:
            return None
        return Ratio(time, self._scale)

    def __call__(self, point):
        place = self._lit_net.point(point)
        if isinstance(place, str):
            return self._told(self._ruled.burnt_at.get(place))
        fuse, distance = place
        factor = parts(distance)[1]
        time = self._ruled.time_at(fuse, whole(distance, self._scale * factor), factor)
        if time is None:
            return None
        return Ratio(time, self._scale * factor)

    def times(self):
        """A dict from all nodes to their times."""
        return {node: self._told(self._ruled.burnt_at.get(node)) for node in self._lit_net.nodes}

    def burnt_out(self, fuse):
        """The least time at which all points of a fuse have burnt, or None."""
        check_fuse(self._lit_net, fuse)
        return self._told(self._field.burnt_out(fuse))

    def end(self):
        """The least time at which all points of the net have burnt, or None."""
        net = self._lit_net
        result = None
        outs = [self._field.burnt_out(fuse) for fuse in range(len(net))]
        for time in [self._ruled.burnt_at.get(node) for node in net.nodes] + outs:
            if time is None:
                return None
            if result is None or time > result:
                result = time
        return self._told(result)

    def events(self):
        """A list of (time, kind, index) of all that happens, in order."""
        rows = self._cut_rows() + self._burning_rows() + self._trigger_rows()
        return [(self._told(time), kind, index) for time, kind, index in in_order(rows)]

    def _cut_rows(self):
        """The cuts at whose times their places have not burnt."""
        rows = []
        for index, (place, time) in enumerate(self._field.rules.cuts):
            burnt = self._ruled.burnt_at.get(place)
            if burnt is None or burnt > time:
                rows.append((time, "cut", index))
        return rows

    def _burning_rows(self):
        """The fuses that burn out, the lights and the nodes that burn."""
        net = self._lit_net
        rows = [(self._field.burnt_out(fuse), "fuse", fuse) for fuse in range(len(net))]
        rows.extend([(time, "light", index) for index, (_, time) in enumerate(self._field.lit_at)])
        rows.extend([(self._ruled.burnt_at.get(node), "node", index) for index, node in enumerate(net.nodes)])
        return [row for row in rows if row[0] is not None]

    def _trigger_rows(self):
        """The triggers that set their lights."""
        times = self._field.trigger_times()
        return [(time, "trigger", index) for index, time in enumerate(times) if time is not None]
