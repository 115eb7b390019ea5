"""Stretches: the parts of fuses between places from which fire runs along a fuse.

All numbers are whole, and even, so that the times halfway between them are whole, too.
"""

from fusenets.ratios import in_order


class Stretch:
    """A part of a fuse, from one distance to another; fire enters it at its ends only."""

    def __init__(self, fuse, low, low_time, high, high_time):
        self.fuse = fuse
        self.low = low
        self.low_time = low_time
        self.high = high
        self.high_time = high_time

    def last_time(self):
        """The time at which the last point of the stretch burns."""
        return (self.low_time + self.high_time + self.high - self.low) // 2

    def last_place(self):
        """The last point to burn as a place, or None if it is an end of the stretch."""
        time = self.last_time()
        if time == self.low_time or time == self.high_time:
            return None
        return self.fuse, self.low + time - self.low_time

    def runs(self):
        """Tuples (start, stop) of the times between which fire runs in from an end."""
        stop = self.last_time()
        return [(start, stop) for start in (self.low_time, self.high_time) if start < stop]


def unbeaten(marks):
    """The tuples (distance, time) that fire from those before them does not reach sooner."""
    kept = marks[:1]
    for distance, time in marks[1:]:
        before, start = kept[-1]
        if time <= start + abs(distance - before):
            kept.append((distance, time))
    return kept


def sources_inside(sources):
    """A dict from the fuses with sources strictly inside them to lists of (distance, time)."""
    inside = {}
    for point, time in sources:
        if not isinstance(point, str):
            fuse, distance = point
            inside[fuse] = inside.get(fuse, []) + [(distance, time)]
    return inside


def marks_on(start, inside, stop):
    """The ends of a fuse and the sources that give their places the time, as (distance, time)."""
    marks = [start] + in_order(inside) + [stop]
    return unbeaten(unbeaten(marks)[::-1])[::-1]


def stretches_of(fuses, sources, times):
    """The stretches of all fuses that burn, in the order of their places."""
    inside = sources_inside(sources)
    rows = []
    for fuse, (one, other, length) in enumerate(fuses):
        if one not in times:
            continue
        if fuse not in inside:
            rows.append(Stretch(fuse, 0, times[one], length, times[other]))
            continue
        marks = marks_on((0, times[one]), inside[fuse], (length, times[other]))
        for (low, start), (high, end) in zip(marks, marks[1:]):
            if low < high:
                rows.append(Stretch(fuse, low, start, high, end))
    return rows
