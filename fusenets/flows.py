"""Flows: how much can run from a start to a goal through arcs with whole capacities."""


class Flow:
    """Arcs between keys, in pairs that run against one another; pushing along one gives the other room."""

    def __init__(self):
        self.heads = []
        self.room = []
        self.labels = []
        self.leaving = {}

    def connect(self, one, other, ahead, back, label):
        """Adds an arc with a capacity, and one back, both with the same label."""
        for tail, head, capacity in [(one, other, ahead), (other, one, back)]:
            self.leaving.setdefault(tail, []).append(len(self.heads))
            self.heads.append(head)
            self.room.append(capacity)
            self.labels.append(label)

    def reached(self, start, room):
        """A dict from all keys that arcs with room lead to from a start to the arcs that come to them."""
        found = {start: None}
        waiting = [start]
        while waiting:
            here = waiting[0]
            waiting = waiting[1:]
            for arc in self.leaving[here]:
                head = self.heads[arc]
                if room[arc] > 0 and head not in found:
                    found[head] = arc
                    waiting.append(head)
        return found

    def path(self, start, goal, room):
        """The arcs, in order, of a shortest path with room, or None."""
        found = self.reached(start, room)
        if goal not in found:
            return None
        arcs = []
        while found[goal] is not None:
            arcs.append(found[goal])
            goal = self.heads[found[goal] ^ 1]
        return arcs[::-1]

    def fill(self, start, goal):
        """Pushes as much as possible from a start to a goal."""
        arcs = self.path(start, goal, self.room)
        while arcs is not None:
            amount = least([self.room[arc] for arc in arcs])
            for arc in arcs:
                self.room[arc] = self.room[arc] - amount
                self.room[arc ^ 1] = self.room[arc ^ 1] + amount
            arcs = self.path(start, goal, self.room)

    def paths(self, start, goal, pushed):
        """Tuples (amount, labels) of paths that together carry what is pushed along each arc."""
        found = []
        arcs = self.path(start, goal, pushed)
        while arcs is not None:
            amount = least([pushed[arc] for arc in arcs])
            pushed = [carried - amount if arc in arcs else carried for arc, carried in enumerate(pushed)]
            found.append((amount, [self.labels[arc] for arc in arcs]))
            arcs = self.path(start, goal, pushed)
        return found


def least(numbers):
    """The least of some whole numbers."""
    return min([int(number) for number in numbers])
