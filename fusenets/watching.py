"""Observations: when some nodes burnt, and which single lights explain them.

Inside, all numbers are whole: they are multiplied by four times their common bottom, so
that the places where ways and times become equal are whole, too.
"""

from fusenets.errors import InvalidObservations
from fusenets.nets import scale_of, whole_fuses, whole_point
from fusenets.ratios import Ratio, is_number, whole
from fusenets.spreading import exits, lesser, node_times


def are_observations(net, value):
    """Whether any value is a dict from at least one node to numbers."""
    if not isinstance(value, dict) or len(value) == 0:
        return False
    return all([node in net and is_number(value[node]) for node in value])


def check_observations(net, value):
    """Raises InvalidObservations unless any value is observations of the net."""
    if not are_observations(net, value):
        raise InvalidObservations(value)


class Sightings:
    """Observations of a net in whole numbers, in the order of its nodes."""

    def __init__(self, net, observations, distances):
        self.seen = [node for node in net.nodes if node in observations]
        self.scale = 4 * scale_of(net, [observations[node] for node in self.seen] + distances)
        self.ways = whole_fuses(net, self.scale)
        self.seen_at = [whole(observations[node], self.scale) for node in self.seen]
        self.tables = [node_times(self.ways, [(node, 0)]) for node in self.seen]

    def starts(self, point):
        """For each observed node, when fire has to leave a point to come there in time, or None."""
        near = exits(self.ways, point)
        found = []
        for time, table in zip(self.seen_at, self.tables):
            length = None
            for node, distance in near:
                if node in table:
                    length = lesser(length, table[node] + distance)
            found.append(None if length is None else time - length)
        return found

    def start(self, point):
        """When a single light at a point explains all, or None."""
        starts = self.starts(point)
        if len(set(starts)) > 1:
            return None
        return starts[0]

    def bends(self, fuse):
        """The ascending distances on a fuse between which all ways to observed nodes go straight."""
        one, other, size = self.ways[fuse]
        places = {0: True, size: True}
        for table in self.tables:
            places[(size + table[other] - table[one]) // 2] = True
        return sorted([int(place) for place in places])

    def lights_at_nodes(self):
        """The tuples (node, time) of all single lights at nodes that explain all."""
        rows = [(node, self.start(node)) for node in self.tables[0]]
        return [(node, time) for node, time in rows if time is not None]


def contradiction(net, observations):
    """The first two observed nodes whose times differ by more than their distance, or None."""
    check_observations(net, observations)
    sightings = Sightings(net, observations, [])
    seen, times = sightings.seen, sightings.seen_at
    for index, one in enumerate(seen):
        table = sightings.tables[index]
        for place in range(index + 1, len(seen)):
            other = seen[place]
            if other in table and abs(times[index] - times[place]) > table[other]:
                return one, other
    return None


def light_time(net, observations, point):
    """The time at which a single light at a point explains the observations, or None."""
    check_observations(net, observations)
    place = net.point(point)
    distances = [] if isinstance(place, str) else [place[1]]
    sightings = Sightings(net, observations, distances)
    start = sightings.start(whole_point(place, sightings.scale))
    if start is None:
        return None
    return Ratio(start, sightings.scale)


def explaining(net, observations):
    """The longest parts (fuse, start, end) at whose points a single light explains the observations."""
    check_observations(net, observations)
    sightings = Sightings(net, observations, [])
    found = []
    for fuse, (one, _, _) in enumerate(sightings.ways):
        if all([one in table for table in sightings.tables]):
            part = explaining_part(sightings, fuse)
            if part is not None:
                found.append((fuse, Ratio(part[0], sightings.scale), Ratio(part[1], sightings.scale)))
    return found


def explaining_part(sightings, fuse):
    """The part (start, end) of a fuse where all times to leave are equal, or None.

    Along a fuse the difference of two of these times never falls or never rises, so the
    places where it is 0 hang together.
    """
    rows = [(place, sightings.starts((fuse, place))) for place in sightings.bends(fuse)]
    start = end = None
    for (low, lows), (high, highs) in zip(rows, rows[1:]):
        part = equal_part(low, high, lows, highs)
        if part is not None:
            if start is None:
                start = part[0]
            end = part[1]
    if start is None:
        return None
    return start, end


def equal_part(low, high, lows, highs):
    """Where between two distances several straight lines are equal, as (start, end), or None.

    Two of the lines are parallel, or their slopes differ by 2.
    """
    start, end = low, high
    for left, right in zip(lows[1:], highs[1:]):
        ahead, behind = left - lows[0], right - highs[0]
        if ahead == behind:
            if ahead != 0:
                return None
        else:
            place = low + abs(ahead) // 2
            if ahead * (behind - ahead) > 0 or not start <= place <= end:
                return None
            start, end = place, place
    return start, end


def suspects(net, observations):
    """All tuples (node, time) such that a single light at the node at the time explains the observations."""
    check_observations(net, observations)
    sightings = Sightings(net, observations, [])
    times = {node: time for node, time in sightings.lights_at_nodes()}
    return [(node, Ratio(times[node], sightings.scale)) for node in net.nodes if node in times]


def largest_group(node, fires):
    """The greatest number of fires, as dicts of the times of nodes, that give a node the same time."""
    counts = {}
    for times in fires:
        time = times.get(node)
        counts[time] = counts.get(time, 0) + 1
    return max([int(count) for count in list(counts.values())])


def node_to_watch(net, observations):
    """The node that tells the suspects apart best, and the size of its largest group, or None."""
    check_observations(net, observations)
    sightings = Sightings(net, observations, [])
    lights = sightings.lights_at_nodes()
    if len(lights) < 2:
        return None
    fires = [node_times(sightings.ways, [light]) for light in lights]
    best = None
    for node in net.nodes:
        number = largest_group(node, fires)
        if best is None or number < best[1]:
            best = (node, number)
    return best
