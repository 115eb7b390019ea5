"""Courses: fires with delays, valves, cuts and lights that are set when a fuse has burnt out.

Inside, all numbers are whole: they are multiplied by their common bottom, and by two for
each trigger and once more, since fire meets fire halfway between the times before.
"""

from fusenets.fires import whole_lights
from fusenets.nets import check_fuse, scale_of, whole_fuses
from fusenets.ratios import Ratio, in_order, parts, whole
from fusenets.ruled import Ruled
from fusenets.rules import Rules, check_rules


class Course:
    """A fire with rules."""

    def __init__(self, fire, *, delays=None, valves=(), cuts=(), triggers=()):
        check_rules(fire, delays, valves, cuts, triggers)
        net = fire.net
        rules = Rules(net, delays, valves, cuts, triggers)
        scale = 2 * scale_of(net, fire.numbers() + rules.numbers())
        for _ in triggers:
            scale = scale * 2
        rules.make_whole(scale)
        self._fire = fire
        self._scale = scale
        self._rules = rules
        self._ruled = Ruled(whole_fuses(net, scale), whole_lights(fire.lights, scale), rules)

    def _told(self, time):
        """A time as it is returned."""
        if time is None:
            return None
        return Ratio(time, self._scale)

    def __call__(self, point):
        place = self._fire.net.point(point)
        if isinstance(place, str):
            return self._told(self._ruled.burnt_at.get(place))
        fuse, distance = place
        factor = parts(distance)[1]
        time = self._ruled.time_at(fuse, whole(distance, self._scale * factor), factor)
        if time is None:
            return None
        return Ratio(time, self._scale * factor)

    def times(self):
        """A dict from all nodes to their times."""
        return {node: self._told(self._ruled.burnt_at.get(node)) for node in self._fire.net.nodes}

    def burnt_out(self, fuse):
        """The least time at which all points of a fuse have burnt, or None."""
        check_fuse(self._fire.net, fuse)
        return self._told(self._ruled.burnt_out(fuse))

    def end(self):
        """The least time at which all points of the net have burnt, or None."""
        net = self._fire.net
        result = None
        outs = [self._ruled.burnt_out(fuse) for fuse in range(len(net))]
        for time in [self._ruled.burnt_at.get(node) for node in net.nodes] + outs:
            if time is None:
                return None
            if result is None or time > result:
                result = time
        return self._told(result)

    def events(self):
        """A list of (time, kind, index) of all that happens, in order."""
        rows = self._cut_rows() + self._burning_rows() + self._trigger_rows()
        return [(self._told(time), kind, index) for time, kind, index in in_order(rows)]

    def _cut_rows(self):
        """The cuts at whose times their places have not burnt."""
        rows = []
        for index, (place, time) in enumerate(self._rules.cuts):
            burnt = self._ruled.burnt_at.get(place)
            if burnt is None or burnt > time:
                rows.append((time, "cut", index))
        return rows

    def _burning_rows(self):
        """The fuses that burn out, the lights and the nodes that burn."""
        net = self._fire.net
        lights = whole_lights(self._fire.lights, self._scale)
        rows = [(self._ruled.burnt_out(fuse), "fuse", fuse) for fuse in range(len(net))]
        rows.extend([(time, "light", index) for index, (_, time) in enumerate(lights)])
        rows.extend([(self._ruled.burnt_at.get(node), "node", index) for index, node in enumerate(net.nodes)])
        return [row for row in rows if row[0] is not None]

    def _trigger_rows(self):
        """The triggers that set their lights."""
        rows = []
        for index, (fuse, _, delay) in enumerate(self._rules.triggers):
            out = self._ruled.burnt_out(fuse)
            if out is not None:
                rows.append((out + delay, "trigger", index))
        return rows
