"""The reach of points, and the best points for a single light.

Inside, lengths are whole numbers: they are multiplied by eight times their common
bottom, so that all distances and reaches that matter are whole, too.
"""

from fusenets.fires import Fire
from fusenets.lines import turns
from fusenets.nets import check_fuse, scale_of, whole_fuses
from fusenets.ratios import Ratio
from fusenets.spreading import lesser, node_times


def reach(net, point):
    """The end of the fire that is lit at a point alone at the time 0, or None."""
    return Fire(net, [(net.point(point), 0)]).end()


def reach_along(net, fuse):
    """The ends of a fuse and the distances where the slope of the reach changes, with the reach."""
    check_fuse(net, fuse)
    if not net.is_connected():
        return None
    scale = 8 * scale_of(net, [])
    rows = turns(Walk(whole_fuses(net, scale), fuse))
    return [(Ratio(distance, scale), Ratio(far, scale)) for distance, far in rows]


class Walk:
    """A fuse of a connected net, along which a point walks that looks for what is farthest."""

    def __init__(self, fuses, fuse):
        one, other, size = fuses[fuse]
        self.ends = (one, other)
        self.size = size
        self.others = fuses[:fuse] + fuses[fuse + 1:]
        self.from_one = node_times(fuses, [(one, 0)])
        self.from_other = node_times(fuses, [(other, 0)])

    def near(self, node, distance):
        """How far a node is from a distance on the fuse."""
        return lesser(self.from_one[node] + distance, self.from_other[node] + self.size - distance)

    def heights(self, distance):
        """How far the farthest point is on each other fuse, and on both parts of this one."""
        nears = {node: self.near(node, distance) for node in self.from_one}
        one, other = self.ends
        mine = [nears[one] + distance, nears[other] + self.size - distance]
        rest = [nears[first] + nears[second] + size for first, second, size in self.others]
        return [both // 2 for both in mine + rest]

    def bends(self):
        """The ascending distances at which the shortest way to a node may change."""
        places = {0: True, self.size: True}
        for node in self.from_one:
            places[(self.size + self.from_other[node] - self.from_one[node]) // 2] = True
        return sorted([int(place) for place in places])


def best_points(net):
    """The least reach, and the longest parts of fuses whose points have it, or None."""
    if not net.is_connected():
        return None
    if len(net) == 0:
        return Ratio(0), []
    tables = [reach_along(net, fuse) for fuse in range(len(net))]
    best = None
    for rows in tables:
        for _, far in rows:
            best = lesser(best, far)
    found = []
    for fuse, rows in enumerate(tables):
        found.extend([(fuse, start, end) for start, end in best_parts(rows, best)])
    return best, found


def best_parts(rows, best):
    """The longest parts (start, end) of a fuse where the reach is the best one."""
    found = []
    previous = None
    for distance, far in rows:
        if far == best:
            start = distance
            if previous == best:
                start = found.pop()[0]
            found.append((start, distance))
        previous = far
    return found
