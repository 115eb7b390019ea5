"""How fire spreads under rules: in order of the times, from spot to spot. All numbers are whole."""

from fusenets.spreading import lesser, soonest


class Ruled:
    """Fire that spreads over a field."""

    def __init__(self, field):
        self.field = field
        self.burnt_at = {}
        self.due = {}
        for point, time in field.lit_at:
            self.come(point, time)
        while self.due:
            self.burn(soonest(self.due))

    def come(self, spot, time):
        """Lets fire or a light come to a spot at a time."""
        if spot not in self.burnt_at:
            self.due[spot] = lesser(self.due.get(spot), time)

    def burn(self, spot):
        """Burns the spot that is due next, and lets fire enter the parts beside it."""
        now = self.due.pop(spot)
        self.burnt_at[spot] = now
        for part, side in self.field.enter(spot, now):
            self.come(part.ends[1 - side], part.entered[side] + part.size)
            self.pull_triggers(part.fuse)

    def pull_triggers(self, fuse):
        """Lets the lights come that are set when a fuse has burnt out.

        The time is too late while fire may still enter the fuse elsewhere; but then this
        is called again before that time, since an entry is known before it takes effect.
        """
        watching = [(point, delay) for trigger, point, delay in self.field.rules.triggers if trigger == fuse]
        if watching:
            out = self.field.burnt_out(fuse)
            if out is not None:
                for point, delay in watching:
                    self.come(point, out + delay)

    def time_at(self, fuse, distance, factor):
        """The time of a place strictly inside a fuse, both in a unit finer by a factor, or None."""
        for part in self.field.on_fuses[fuse]:
            behind = distance - part.low * factor
            if behind == 0:
                return finer(self.burnt_at.get(part.ends[0]), factor)
            if 0 < behind < part.size * factor:
                return part.arrival(behind, factor)
        return None


def finer(time, factor):
    """A time in a unit finer by a factor, or None."""
    if time is None:
        return None
    return time * factor
