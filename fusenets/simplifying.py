"""Simplifying: nets with fewer fuses and the same distances between some kept nodes."""

from fusenets.errors import InvalidNodes, LimitExceeded
from fusenets.nets import MOST_FUSES, Net, is_index, whole_fuses
from fusenets.ratios import Ratio
from fusenets.spreading import node_times

MOST_KEPT = 6
MOST_TO_DERIVE = 25
SIZES = {"add": 3, "drop": 2, "merge": 2, "remove": 2}


def check_kept(net, value):
    """Raises InvalidNodes unless any value is a list of nodes of a net to keep."""
    if not isinstance(value, list) or not 1 <= len(value) <= MOST_KEPT:
        raise InvalidNodes(value)
    if not all([node in net for node in value]) or len(set(value)) < len(value):
        raise InvalidNodes(value)


def pairs_of(keep):
    """The list of all tuples (one, other) of kept nodes, one before other."""
    return [(one, keep[place]) for index, one in enumerate(keep) for place in range(index + 1, len(keep))]


def distances_between(fuses, keep):
    """A dict from the pairs of kept nodes to their whole distances, or None."""
    found = {}
    for index, one in enumerate(keep):
        times = node_times(fuses, [(one, 0)])
        for other in keep[index + 1:]:
            found[(one, other)] = times.get(other)
    return found


def table(net, keep):
    """A dict from the pairs of kept nodes to their distances, or None."""
    check_kept(net, keep)
    scale = net.own_scale()
    found = distances_between(net.own_fuses(), keep)
    return {pair: None if found[pair] is None else Ratio(found[pair], scale) for pair in found}


def agree(net, other, keep):
    """Whether two nets have the same distances between kept nodes."""
    return table(net, keep) == table(other, keep)


def is_direct(found, keep, pair):
    """Whether two kept nodes have a distance that is less than all through a third one."""
    one, other = pair
    if found[pair] is None:
        return False
    for third in keep:
        if third != one and third != other:
            halves = [found.get((node, third), found.get((third, node))) for node in pair]
            if None not in halves and halves[0] + halves[1] <= found[pair]:
                return False
    return True


def simplified(net, keep):
    """The net of the kept nodes with the fewest fuses and the same distances."""
    found = table(net, keep)
    fuses = [(pair[0], pair[1], found[pair]) for pair in pairs_of(keep) if is_direct(found, keep, pair)]
    return Net(keep, fuses)


class Sketch:
    """Nodes and fuses with whole lengths that steps change; the distances of the kept nodes stay."""

    def __init__(self, net, keep):
        self.keep = list(keep)
        self.left = net.nodes
        self.scale = net.own_scale()
        self.ways = whole_fuses(net, self.scale)

    def made(self):
        """The net that it is now."""
        return Net(self.left, [(one, other, Ratio(size, self.scale)) for one, other, size in self.ways])

    def take(self, step):
        """Makes a step; whether any value is one that is possible."""
        if not isinstance(step, tuple) or len(step) == 0 or not isinstance(step[0], str):
            return False
        kind = step[0]
        if kind not in SIZES or len(step) != SIZES[kind]:
            return False
        if kind == "add":
            return self.add_fuse(step[1], step[2])
        if kind == "drop":
            return self.drop_fuse(step[1])
        if not self.is_spare(step[1]):
            return False
        if kind == "merge":
            return self.merge_node(step[1])
        return self.remove_node(step[1])

    def has(self, value):
        """Whether any value is a node that is left."""
        return isinstance(value, str) and value in self.left

    def is_spare(self, value):
        """Whether any value is a node that is left and not kept."""
        return self.has(value) and value not in self.keep

    def ends_at(self, node):
        """The indexes of the fuses of a node, twice for a fuse with both ends there."""
        return [index for index, way in enumerate(self.ways) for end in way[:2] if end == node]

    def add_fuse(self, one, other):
        """Adds a fuse as long as the distance of two nodes, if it can be added."""
        if not self.has(one) or not self.has(other) or one == other or len(self.ways) >= MOST_FUSES:
            return False
        size = node_times(self.ways, [(one, 0)]).get(other)
        if size is None:
            return False
        self.ways = self.ways + [(one, other, size)]
        return True

    def drop_fuse(self, fuse):
        """Removes a fuse, if this changes no distance of kept nodes."""
        if not is_index(fuse, len(self.ways)):
            return False
        rest = self.ways[:fuse] + self.ways[fuse + 1:]
        if distances_between(rest, self.keep) != distances_between(self.ways, self.keep):
            return False
        self.ways = rest
        return True

    def merge_node(self, node):
        """Puts one fuse in the place of a node and its two fuses, if it has two ends of different ones."""
        found = self.ends_at(node)
        if len(found) != 2 or found[0] == found[1]:
            return False
        earlier, later = self.ways[found[0]], self.ways[found[1]]
        rest = [way for index, way in enumerate(self.ways) if index not in found]
        self.ways = rest + [(far_end(earlier, node), far_end(later, node), earlier[2] + later[2])]
        self.left = [other for other in self.left if other != node]
        return True

    def remove_node(self, node):
        """Removes a node, if it has no fuses."""
        if self.ends_at(node):
            return False
        self.left = [other for other in self.left if other != node]
        return True


def far_end(way, node):
    """The end of a fuse that is not at a node."""
    if way[0] == node:
        return way[1]
    return way[0]


def after_steps(net, keep, value):
    """The net after a list of steps, or None if any value is no list of possible steps."""
    check_kept(net, keep)
    if not isinstance(value, list):
        return None
    sketch = Sketch(net, keep)
    for step in value:
        if not sketch.take(step):
            return None
    return sketch.made()


def derivation(net, keep):
    """A list of steps after which the net has the kept nodes, and the fuses of the simplified net, only."""
    check_kept(net, keep)
    if len(net) > MOST_TO_DERIVE:
        raise LimitExceeded(MOST_TO_DERIVE)
    # First all fuses of the simplified net, at most 15, so none of the others is needed any more.
    found = [("add", one, other) for one, other, _ in simplified(net, keep).fuses]
    found.extend([("drop", 0) for _ in range(len(net))])
    return found + [("remove", node) for node in net.nodes if node not in keep]
