"""Parts: what the places of some points cut the fuses of a net into. All numbers are whole."""

from fusenets.spreading import lesser


class Part:
    """A part of a fuse between two neighbouring spots, and when fire enters it there."""

    def __init__(self, fuse, low, high, ends):
        self.fuse = fuse
        self.low = low
        self.size = high - low
        self.ends = ends
        self.entered = [None, None]

    def out_time(self):
        """The time at which all of the part has burnt by the known entries, or None."""
        first, second = self.entered
        if first is None and second is None:
            return None
        if first is None:
            return second + self.size
        if second is None:
            return first + self.size
        if abs(first - second) >= self.size:
            return min(int(first), int(second)) + self.size
        return (first + second + self.size) // 2

    def arrival(self, distance, factor):
        """The time at which fire comes to a distance behind the first end, both in a finer unit, or None."""
        first, second = self.entered
        result = None
        if first is not None:
            result = first * factor + distance
        if second is not None:
            result = lesser(result, (second + self.size) * factor - distance)
        return result


def parts_of(fuses, points):
    """The parts into which some points cut the fuses, in the order of their places."""
    inside = {}
    for point in points:
        if not isinstance(point, str):
            fuse, distance = point
            inside[fuse] = inside.get(fuse, []) + [distance]
    rows = []
    for fuse, (one, other, size) in enumerate(fuses):
        marks = sorted(set([int(distance) for distance in inside.get(fuse, [])]))
        spots = [one] + [(fuse, mark) for mark in marks] + [other]
        places = [0] + marks + [size]
        for index in range(len(marks) + 1):
            rows.append(Part(fuse, places[index], places[index + 1], (spots[index], spots[index + 1])))
    return rows
