"""Lights for a tree that are set from its leaves up to its root, each as high as possible.

All lengths and times are whole numbers. The need of a node is how far below it the
farthest point is that no light reaches yet; below 0 it tells how far the lights below
reach beyond the node.
"""


class Climb:
    """A fuse of a tree, from a node up to the one above it."""

    def __init__(self, fuse, below, above, size, is_forward):
        self.fuse = fuse
        self.below = below
        self.above = above
        self.size = size
        self.is_forward = is_forward

    def place(self, height):
        """The place at a height above the lower node."""
        if self.is_forward:
            return self.fuse, height
        return self.fuse, self.size - height


def climbs_to(fuses, node):
    """All fuses of a node as climbs up to it."""
    climbs = []
    for fuse, (one, other, size) in enumerate(fuses):
        if other == node:
            climbs.append(Climb(fuse, one, node, size, True))
        elif one == node:
            climbs.append(Climb(fuse, other, node, size, False))
    return climbs


def climbs_of(fuses, root):
    """The climbs of a tree, each behind those below it."""
    climbs = []
    ready = [root]
    seen = {root: True}
    while ready:
        node = ready.pop()
        for climb in climbs_to(fuses, node):
            if climb.below not in seen:
                seen[climb.below] = True
                ready.append(climb.below)
                climbs.append(climb)
    return climbs[::-1]


def need_of(needs):
    """The need of a node, from the needs at the upper ends of the fuses below it."""
    if not needs:
        return 0
    least = min([int(need) for need in needs])
    most = max([int(need) for need in needs])
    if least + most <= 0:
        return least
    return most


class Lighting:
    """The fewest lights that burn a tree within a time; lengths are multiplied by the factor."""

    def __init__(self, climbs, root, time, factor=1):
        self.root = root
        self.radius = time
        self.rows = []
        tops = {}
        for climb in climbs:
            need = need_of(tops.get(climb.below, []))
            rise = need + climb.size * factor
            # A light stands where the need has risen to the time, and lowers it by twice the time.
            number = -((time - rise) // (2 * time))
            top = rise - 2 * time * number
            self.rows.append((climb, need, number, top))
            tops[climb.above] = tops.get(climb.above, []) + [top]
        self.root_need = need_of(tops.get(root, []))

    def is_root_lit(self):
        """Whether one more light is set at the root."""
        return self.root_need > 0 or not self.rows

    def light_number(self):
        """The number of the lights."""
        inside = sum([number for _, _, number, _ in self.rows])
        if self.is_root_lit():
            return inside + 1
        return inside

    def light_points(self):
        """The points of the lights."""
        found = []
        for climb, need, number, _ in self.rows:
            first = self.radius - need
            found.extend([climb.place(first + 2 * self.radius * index) for index in range(number)])
        if self.is_root_lit():
            found.append(self.root)
        return found

    def witnesses(self):
        """For each light the farthest point that made it needed."""
        found = []
        needs = {}
        farthest = {}
        for climb, need, number, top in self.rows:
            heights = [2 * self.radius * index - need for index in range(number)]
            found.extend([point_at(climb, height, farthest) for height in heights])
            if top > needs.get(climb.above, 0):
                needs[climb.above] = top
                farthest[climb.above] = point_at(climb, climb.size - top, farthest)
        if self.is_root_lit():
            found.append(farthest.get(self.root, self.root))
        return found


def point_at(climb, height, farthest):
    """The place at a height, or below 0 the farthest point that the lower node needs."""
    if height < 0:
        return farthest[climb.below]
    return climb.place(height)
