"""Single fuses: what leaving one out, or another length of it, changes."""

from fusenets.errors import InvalidFuse, InvalidNumber
from fusenets.fires import whole_lights
from fusenets.lines import greatest, turns
from fusenets.nets import check_fuse, scale_of, whole_fuses
from fusenets.parts import parts_of
from fusenets.ratios import Ratio, is_positive, whole
from fusenets.spreading import first_times, lesser, node_times, spread
from fusenets.stretches import stretches_of


def is_lit(fire, fuse):
    """Whether a light is at a place strictly inside a fuse."""
    return fuse in [point[0] for point, _ in fire.lights if not isinstance(point, str)]


def check_unlit(fire, fuse):
    """Raises InvalidFuse unless any value is the index of a fuse that is not lit."""
    check_fuse(fire.net, fuse)
    if is_lit(fire, fuse):
        raise InvalidFuse(fuse)


class Whole:
    """A fire in whole and even numbers, of which single fuses can be changed."""

    def __init__(self, fire, numbers):
        self.scale = 2 * scale_of(fire.net, fire.numbers() + numbers)
        self.ways = whole_fuses(fire.net, self.scale)
        self.lit_at = whole_lights(fire.lights, self.scale)

    def spread_all(self):
        """A dict from each node that burns to its time."""
        return node_times(self.ways, self.lit_at)

    def spread_without(self, fuse):
        """A dict from each node that burns without a fuse to its time."""
        rest = self.ways[:fuse] + self.ways[fuse + 1:]
        lights = [(point, time) for point, time in self.lit_at if isinstance(point, str) or point[0] != fuse]
        return spread(rest, first_times(self.ways, lights))

    def end_with(self, fuse, size):
        """The end, if all burns, when a fuse has another length."""
        one, other, _ = self.ways[fuse]
        ways = self.ways[:fuse] + [(one, other, size)] + self.ways[fuse + 1:]
        times = node_times(ways, self.lit_at)
        lasts = [stretch.last_time() for stretch in stretches_of(ways, self.lit_at, times)]
        return greatest(list(times.values()) + lasts)


def times_without(fire, fuse):
    """A dict from all nodes to their times if a fuse is left out."""
    check_fuse(fire.net, fuse)
    whole_fire = Whole(fire, [])
    times = whole_fire.spread_without(fuse)
    result = {node: None for node in fire.net.nodes}
    for node in times:
        result[node] = Ratio(times[node], whole_fire.scale)
    return result


def superfluous(fire):
    """The indexes of all fuses each of which can be left out without changing a node's time."""
    whole_fire = Whole(fire, [])
    times = whole_fire.spread_all()
    return [fuse for fuse in range(len(fire.net)) if whole_fire.spread_without(fuse) == times]


def critical_length(fire, fuse):
    """The least length from which on a fuse that is not lit changes no node's time, or None."""
    check_unlit(fire, fuse)
    one, other, _ = fire.net.fuses[fuse]
    times = times_without(fire, fuse)
    if times[one] is None and times[other] is None:
        return Ratio(0)
    if times[one] is None or times[other] is None:
        return None
    return abs(times[one] - times[other])


class Lengths:
    """How the end of a fire that burns all depends on the length of a fuse that is not lit.

    Each spot has a time without the fuse, and a time through the fuse, to which the length
    is added; of these the lesser counts. The heights are twice the times of last points.
    """

    def __init__(self, fire, fuse, scale):
        fuses = whole_fuses(fire.net, scale)
        lights = whole_lights(fire.lights, scale)
        pieces = parts_of(fuses, [point for point, _ in lights])
        self.ends = fuses[fuse][:2]
        self.nodes_alone = fire.net.nodes
        self.ways = [(part.ends[0], part.ends[1], part.size) for part in pieces if part.fuse != fuse]
        starts = {}
        for point, time in lights:
            starts[point] = lesser(starts.get(point), time)
        self.without = spread(self.ways, starts)
        self.through = spread(self.ways, self.entries())

    def entries(self):
        """A dict from the ends of the fuse to the times at which fire enters at the other end."""
        one, other = self.ends
        found = {}
        for here, there in [(one, other), (other, one)]:
            if here in self.without:
                found[there] = lesser(found.get(there), self.without[here])
        return found

    def time_with(self, spot, length):
        """The time of a spot if the fuse has a length."""
        if spot not in self.through:
            return self.without[spot]
        return lesser(self.without.get(spot), self.through[spot] + length)

    def heights(self, length):
        """Twice the times of the nodes and of the last points between spots."""
        one, other = self.ends
        times = {spot: self.time_with(spot, length) for spot in self.spots()}
        found = [2 * times[node] for node in self.nodes_alone]
        found.extend([times[first] + times[second] + size for first, second, size in self.ways])
        return found + [times[one] + times[other] + length]

    def spots(self):
        """The nodes and the places of the lights."""
        return list({**self.without, **self.through})

    def bends(self):
        """0, the lengths at which the fuse begins to change no more a spot's time, and one behind all."""
        places = {0: True}
        for spot in self.through:
            if spot in self.without and self.without[spot] > self.through[spot]:
                places[self.without[spot] - self.through[spot]] = True
        found = sorted([int(place) for place in places])
        spans = [abs(height) for height in self.heights(found[-1])]
        return found + [found[-1] + 4 * greatest(spans) + 4]


def all_burns(fire):
    """Whether all points of the net burn."""
    return None not in list(fire.times().values())


def end_by_length(fire, fuse):
    """A list of (length, end, slope) of the end as a function of the length of a fuse, or None."""
    check_unlit(fire, fuse)
    if not all_burns(fire):
        return None
    # Lengths at which lines of twice the end cross are multiples of 2 if all else is of 4.
    scale = 4 * scale_of(fire.net, fire.numbers())
    rows = turns(Lengths(fire, fuse, scale))
    found = []
    for (length, height), (longer, higher) in zip(rows, rows[1:]):
        slope = Ratio(higher - height, 2 * (longer - length))
        found.append((Ratio(length, scale), Ratio(height, 2 * scale), slope))
    return found


def best_to_shorten(fire, amount):
    """The fuse for which the end is least if it becomes shorter by an amount, and that end, or None."""
    if not is_positive(amount):
        raise InvalidNumber(amount)
    if not all_burns(fire):
        return None
    whole_fire = Whole(fire, [amount])
    less = whole(amount, whole_fire.scale)
    best = None
    for fuse, (_, _, size) in enumerate(whole_fire.ways):
        if size > less and not is_lit(fire, fuse):
            end = whole_fire.end_with(fuse, size - less)
            if best is None or end < best[1]:
                best = (fuse, end)
    if best is None:
        return None
    return best[0], Ratio(best[1], whole_fire.scale)
