"""Fields: what spots cut a lit net into, and where fire enters the parts. All numbers are whole.

The spots are the nodes and the places of lights, cuts and triggers.
"""

from fusenets.fires import whole_lights
from fusenets.nets import whole_fuses
from fusenets.parts import parts_of


class Field:
    """The parts of a lit net with rules, and the times at which fire enters them, as far as it is told."""

    def __init__(self, fire, rules, scale):
        self.scale = scale
        self.rules = rules
        self.rules.make_whole(scale)
        self.ways = whole_fuses(fire.net, scale)
        self.lit_at = whole_lights(fire.lights, scale)
        self.stops = {place: time for place, time in rules.cuts}
        set_at = [point for _, point, _ in rules.triggers]
        self.pieces = parts_of(self.ways, [point for point, _ in self.lit_at] + list(self.stops) + set_at)
        self.on_fuses = [[part for part in self.pieces if part.fuse == fuse] for fuse in range(len(self.ways))]
        self.beside = {node: [] for node in fire.net.nodes}
        for part in self.pieces:
            for side, spot in enumerate(part.ends):
                self.beside.setdefault(spot, []).append((part, side))

    def spots(self):
        """All spots, in the order of points."""
        nodes = [spot for spot in self.beside if isinstance(spot, str)]
        return nodes + [part.ends[0] for part in self.pieces if not isinstance(part.ends[0], str)]

    def enter(self, spot, now):
        """Lets fire enter the parts beside a spot that burns now; returns them as (part, side)."""
        if spot in self.stops and now > self.stops[spot]:
            return []
        leaving = now + self.rules.delays.get(spot, 0)
        entered = []
        for part, side in self.beside[spot]:
            if not (isinstance(spot, str) and (part.fuse, side) in self.rules.valves):
                part.entered[side] = leaving
                entered.append((part, side))
        return entered

    def burnt_out(self, fuse):
        """The time at which all points of a fuse have burnt, or None."""
        result = None
        for part in self.on_fuses[fuse]:
            time = part.out_time()
            if time is None:
                return None
            if result is None or time > result:
                result = time
        return result

    def trigger_times(self):
        """For each trigger the time at which it sets its light, or None."""
        found = []
        for fuse, _, delay in self.rules.triggers:
            out = self.burnt_out(fuse)
            found.append(None if out is None else out + delay)
        return found
