"""How fire spreads along fuses from its sources.

Fuses are tuples (one, other, length), points are nodes or places (fuse, distance)
strictly inside a fuse, and sources are tuples (point, time). All numbers are alike:
integers where lengths and times have been made whole, otherwise any numbers.
"""


def lesser(one, other):
    """The lesser of two numbers; None stands for never."""
    if one is None:
        return other
    if other is not None and other < one:
        return other
    return one


def exits(fuses, point):
    """The nodes to which fire comes first from a point, with their distances."""
    if isinstance(point, str):
        return [(point, 0)]
    fuse, distance = point
    one, other, length = fuses[fuse]
    return [(one, distance), (other, length - distance)]


def neighbours(fuses, node):
    """The nodes at the other ends of all fuses of a node, with the lengths."""
    ahead = [(other, length) for one, other, length in fuses if one == node]
    back = [(one, length) for one, other, length in fuses if other == node]
    return ahead + back


def soonest(times):
    """The first key of a dict with the least time."""
    best = least = None
    for node, time in times.items():
        if least is None or time < least:
            best, least = node, time
    return best


def first_times(fuses, sources):
    """A dict from the nodes to which fire of the sources comes first to the times."""
    times = {}
    for point, time in sources:
        for node, distance in exits(fuses, point):
            times[node] = lesser(times.get(node), time + distance)
    return times


def spread(fuses, starts):
    """A dict from each node that burns to its time, from a dict of the times at which nodes are lit.

    The nodes may be anything that can be a key.
    """
    beside = {}
    for one, other, length in fuses:
        beside.setdefault(one, []).append((other, length))
        beside.setdefault(other, []).append((one, length))
    waiting = {node: starts[node] for node in starts}
    times = {}
    while waiting:
        here = soonest(waiting)
        now = waiting.pop(here)
        times[here] = now
        for node, length in beside.get(here, []):
            if node not in times:
                waiting[node] = lesser(waiting.get(node), now + length)
    return times


def node_times(fuses, sources):
    """A dict from each node that burns to its time."""
    return spread(fuses, first_times(fuses, sources))


def straight(one, other):
    """The distance of two points along one fuse or none, without a node between, or None."""
    if one == other:
        return 0
    if isinstance(one, str) or isinstance(other, str) or one[0] != other[0]:
        return None
    return abs(one[1] - other[1])


def time_at(fuses, sources, times, point):
    """The time of a point, from the times of the nodes, or None."""
    result = None
    for node, distance in exits(fuses, point):
        if node in times:
            result = lesser(result, times[node] + distance)
    for source, time in sources:
        distance = straight(source, point)
        if distance is not None:
            result = lesser(result, time + distance)
    return result
