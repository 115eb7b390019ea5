"""How fire spreads under rules: in order of the times, from spot to spot. All numbers are whole."""

from fusenets.parts import parts_of
from fusenets.spreading import lesser, soonest


class Ruled:
    """Fire under rules; its spots are the nodes and the places of lights, cuts and triggers."""

    def __init__(self, fuses, lights, rules):
        self.rules = rules
        self.stops = {place: time for place, time in rules.cuts}
        set_at = [point for _, point, _ in rules.triggers]
        self.pieces = parts_of(fuses, [point for point, _ in lights] + list(self.stops) + set_at)
        self.on_fuses = [[part for part in self.pieces if part.fuse == fuse] for fuse in range(len(fuses))]
        self.beside = {}
        for part in self.pieces:
            for side, spot in enumerate(part.ends):
                self.beside.setdefault(spot, []).append((part, side))
        self.burnt_at = {}
        self.due = {}
        for point, time in lights:
            self.come(point, time)
        while self.due:
            self.burn(soonest(self.due))

    def come(self, spot, time):
        """Lets fire or a light come to a spot at a time."""
        if spot not in self.burnt_at:
            self.due[spot] = lesser(self.due.get(spot), time)

    def burn(self, spot):
        """Burns the spot that is due next, and lets fire enter the parts beside it."""
        now = self.due.pop(spot)
        self.burnt_at[spot] = now
        if spot in self.stops and now > self.stops[spot]:
            return
        leaving = now + self.rules.delays.get(spot, 0)
        for part, side in self.beside.get(spot, []):
            if not (isinstance(spot, str) and (part.fuse, side) in self.rules.valves):
                part.entered[side] = leaving
                self.come(part.ends[1 - side], leaving + part.size)
                self.pull_triggers(part.fuse)

    def pull_triggers(self, fuse):
        """Lets the lights come that are set when a fuse has burnt out.

        The time is too late while fire may still enter the fuse elsewhere; but then this
        is called again before that time, since an entry is known before it takes effect.
        """
        watching = [(point, delay) for trigger, point, delay in self.rules.triggers if trigger == fuse]
        if watching:
            out = self.burnt_out(fuse)
            if out is not None:
                for point, delay in watching:
                    self.come(point, out + delay)

    def burnt_out(self, fuse):
        """The time at which all points of a fuse have burnt, or None."""
        result = None
        for part in self.on_fuses[fuse]:
            time = part.out_time()
            if time is None:
                return None
            if result is None or time > result:
                result = time
        return result

    def time_at(self, fuse, distance, factor):
        """The time of a place strictly inside a fuse, both in a unit finer by a factor, or None."""
        for part in self.on_fuses[fuse]:
            behind = distance - part.low * factor
            if behind == 0:
                return finer(self.burnt_at.get(part.ends[0]), factor)
            if 0 < behind < part.size * factor:
                return part.arrival(behind, factor)
        return None


def finer(time, factor):
    """A time in a unit finer by a factor, or None."""
    if time is None:
        return None
    return time * factor
