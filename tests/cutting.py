"""Answers that are found in another way: the net is cut into small equal parts, and fire
goes step by step from spot to spot, one part in the time that is the length of a part.

All lengths, distances and times must be multiples of the part.
"""

from fractions import Fraction


def fraction(number):
    """A number of the package, or of Python, as a Fraction."""
    if hasattr(number, "bottom"):
        return Fraction(number.top, number.bottom)
    return Fraction(number)


class Cut:
    """A net cut into parts; spots are nodes and tuples (fuse, number of parts)."""

    def __init__(self, nodes, fuses, part):
        self.part = Fraction(part)
        self.nodes = list(nodes)
        self.sizes = []
        self.joints = []
        for fuse, (one, other, length) in enumerate(fuses):
            size = fraction(length) / self.part
            assert size.denominator == 1
            self.sizes.append(int(size))
            chain = [one] + [(fuse, at) for at in range(1, int(size))] + [other]
            self.joints.extend(zip(chain, chain[1:]))
        self.ends = [(one, other) for one, other, _ in fuses]
        self.beside = {spot: [] for spot in self.spots()}
        for one, other in self.joints:
            self.beside[one].append(other)
            self.beside[other].append(one)

    def spots(self):
        """All spots, in the order of points."""
        inner = [(fuse, at) for fuse, size in enumerate(self.sizes) for at in range(1, size)]
        return self.nodes + inner

    def spot(self, point):
        """The spot of a point."""
        if isinstance(point, str):
            return point
        fuse, distance = point
        at = fraction(distance) / self.part
        assert at.denominator == 1
        if at == 0:
            return self.ends[fuse][0]
        if at == self.sizes[fuse]:
            return self.ends[fuse][1]
        return fuse, int(at)

    def point(self, spot):
        """The point at a spot."""
        if isinstance(spot, str):
            return spot
        return spot[0], spot[1] * self.part

    def burn(self, lights):
        """A dict from each spot that burns to its time."""
        due = {}
        for point, time in lights:
            tick = fraction(time) / self.part
            assert tick.denominator == 1
            due.setdefault(int(tick), []).append(self.spot(point))
        times = {}
        tick = min(due)
        while due:
            here = due.pop(tick, [])
            for spot in here:
                if spot not in times:
                    times[spot] = tick * self.part
                    due.setdefault(tick + 1, []).extend(self.beside[spot])
            tick += 1
        return times

    def end(self, lights):
        """The greatest time of all spots, or None."""
        times = self.burn(lights)
        if len(times) < len(self.spots()):
            return None
        return max(times.values())

    def last(self, lights):
        """All points with the greatest time, in order."""
        times, end = self.burn(lights), self.end(lights)
        if end is None:
            return []
        return [self.point(spot) for spot in self.spots() if times[spot] == end]

    def meetings(self, lights):
        """All places inside fuses that fire reaches from both sides, but not from a light."""
        times = self.burn(lights)
        lit = [(self.spot(point), fraction(time)) for point, time in lights]
        rows = []
        for spot in self.spots():
            if not isinstance(spot, str) and spot in times and (spot, times[spot]) not in lit:
                if all(times[other] == times[spot] - self.part for other in self.beside[spot]):
                    rows.append((times[spot], self.point(spot)))
        return sorted(rows)

    def burnt(self, lights, time):
        """The burnt length at any time."""
        times = self.burn(lights)
        done = Fraction(0)
        for one, other in self.joints:
            if one in times:
                both = [max(Fraction(0), time - times[end]) for end in (one, other)]
                done += min(self.part, sum(both))
        return done

    def fronts(self, lights, time):
        """The number of fronts at any time."""
        times = self.burn(lights)
        number = 0
        for one, other in self.joints:
            if one in times:
                stop = (times[one] + times[other] + self.part) / 2
                number += len([end for end in (one, other) if times[end] <= time < stop])
        return number


def random_net(random, most_nodes=6, most_fuses=8, longest=4):
    """Nodes and fuses with whole lengths, with loops, equal ends and parts as they come."""
    nodes = list("abcdefgh"[:random.randint(1, most_nodes)])
    fuses = [(random.choice(nodes), random.choice(nodes), random.randint(1, longest))
             for _ in range(random.randint(0, most_fuses))]
    return nodes, fuses


def random_tree(random, most_nodes=8, longest=6):
    """Nodes and fuses of a tree with whole lengths."""
    nodes = list("abcdefghijklmnop"[:random.randint(1, most_nodes)])
    fuses = []
    for index in range(1, len(nodes)):
        pair = [nodes[random.randrange(index)], nodes[index]]
        random.shuffle(pair)
        fuses.append((pair[0], pair[1], random.randint(1, longest)))
    random.shuffle(fuses)
    random.shuffle(nodes)
    return nodes, fuses


def random_point(random, nodes, fuses):
    """A node, or a place at a whole distance, its ends included."""
    if not fuses or random.random() < 0.4:
        return random.choice(nodes)
    fuse = random.randrange(len(fuses))
    return fuse, random.randint(0, fuses[fuse][2])


def random_lights(random, nodes, fuses, most=4):
    """Lights at whole distances and times, also below 0."""
    return [(random_point(random, nodes, fuses), random.randint(-3, 6))
            for _ in range(random.randint(1, most))]


def plain(value):
    """A returned value with Fractions for Ratios, at any depth."""
    if isinstance(value, (list, tuple)):
        return [plain(item) for item in value] if isinstance(value, list) else tuple(map(plain, value))
    if isinstance(value, dict):
        return {key: plain(item) for key, item in value.items()}
    return fraction(value) if hasattr(value, "bottom") else value


def distances_between(nodes, fuses, points):
    """The distances of any two of some points, and how far all is from them, by Floyd and Warshall.

    The points become nodes of their own, so nothing depends on the parts of fuses.
    """
    names = list(nodes)
    spots, parts = [], []
    inside = {}
    for point in points:
        if isinstance(point, str):
            spots.append(point)
        else:
            spots.append((point[0], fraction(point[1])))
            inside.setdefault(point[0], []).append(spots[-1])
    for fuse, (one, other, length) in enumerate(fuses):
        marks = sorted(set(inside.get(fuse, [])), key=lambda spot: spot[1])
        names.extend(marks)
        chain = [(one, Fraction(0))] + [(mark, mark[1]) for mark in marks] + [(other, fraction(length))]
        parts.extend((low[0], high[0], high[1] - low[1]) for low, high in zip(chain, chain[1:]))
    table = {(one, other): None for one in names for other in names}
    for name in names:
        table[name, name] = Fraction(0)
    for one, other, length in parts:
        for pair in ((one, other), (other, one)):
            if table[pair] is None or length < table[pair]:
                table[pair] = length
    for middle in names:
        for one in names:
            if table[one, middle] is not None:
                for other in names:
                    if table[middle, other] is not None:
                        way = table[one, middle] + table[middle, other]
                        if table[one, other] is None or way < table[one, other]:
                            table[one, other] = way
    return names, parts, table, spots
