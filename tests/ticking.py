"""A fire with rules that goes step by step, tick by tick, through a net cut into small equal parts.

All numbers must be multiples of the part, and so must all times at which fire meets fire.
"""

from fractions import Fraction

from cutting import Cut, fraction


class Ticking:
    """A course; times are numbers of ticks, one for each part."""

    def __init__(self, nodes, fuses, lights, part, delays=None, valves=(), cuts=(), triggers=()):
        self.cut = Cut(nodes, fuses, part)
        self.lights = [(self.cut.spot(point), self.ticks(time)) for point, time in lights]
        self.delays = {node: self.ticks(wait) for node, wait in (delays or {}).items()}
        self.valves = list(valves)
        self.cuts = [(self.cut.spot((fuse, at)), self.ticks(time)) for fuse, at, time in cuts]
        self.triggers = [(fuse, self.cut.spot(point), self.ticks(wait)) for fuse, point, wait in triggers]
        self.edges = []
        for fuse, (one, other) in enumerate(self.cut.ends):
            size = self.cut.sizes[fuse]
            chain = [one] + [(fuse, at) for at in range(1, size)] + [other]
            self.edges.extend((fuse, at, ends) for at, ends in enumerate(zip(chain, chain[1:])))
        self.left = list(self.cut.sizes)
        self.burnt, self.entered, self.out, self.pulled = {}, {}, {}, {}
        self.agenda = {}
        for spot, tick in self.lights:
            self.plan(tick, "reach", spot)
        self.run()

    def ticks(self, number):
        """A number as ticks."""
        tick = fraction(number) / self.cut.part
        assert tick.denominator == 1
        return int(tick)

    def plan(self, tick, kind, what):
        """Puts something on the agenda."""
        self.agenda.setdefault(tick, []).append((kind, what))

    def run(self):
        """Goes from tick to tick until nothing is left to do."""
        beside = {}
        for index, (_, _, ends) in enumerate(self.edges):
            for side, spot in enumerate(ends):
                beside.setdefault(spot, []).append((index, side))
        while self.agenda:
            tick = min(self.agenda)
            while tick in self.agenda:
                for kind, what in self.agenda.pop(tick):
                    if kind == "reach":
                        self.reach(tick, what)
                    elif kind == "leave":
                        for index, side in beside.get(what, []):
                            self.enter(tick, what, index, side)
                    else:
                        self.finish(tick, self.edges[what][0])

    def reach(self, tick, spot):
        """Burns a spot, unless it has burnt."""
        if spot not in self.burnt:
            self.burnt[spot] = tick
            self.plan(tick + self.delays.get(spot, 0), "leave", spot)

    def enter(self, tick, spot, index, side):
        """Lets fire enter a part if the rules let it, and if nothing burns there."""
        fuse, _, ends = self.edges[index]
        if isinstance(spot, str) and (fuse, side) in self.valves:
            return
        if any(spot == place and self.burnt[spot] > time for place, time in self.cuts):
            return
        if index in self.entered:
            assert self.entered[index] != (tick, 1 - side), "the part is too long"
            return
        self.entered[index] = (tick, side)
        self.plan(tick + 1, "reach", ends[1 - side])
        self.plan(tick + 1, "finish", index)

    def finish(self, tick, fuse):
        """Counts a part that has burnt, and pulls the triggers of a fuse of which it was the last one."""
        self.left[fuse] -= 1
        if self.left[fuse] == 0:
            self.out[fuse] = tick
            for index, (watched, spot, wait) in enumerate(self.triggers):
                if watched == fuse:
                    self.pulled[index] = tick + wait
                    self.plan(tick + wait, "reach", spot)

    def time(self, tick):
        """Ticks as a number."""
        return None if tick is None else tick * self.cut.part

    def end(self):
        """The time at which all has burnt, or None."""
        if any(self.left) or any(node not in self.burnt for node in self.cut.nodes):
            return None
        return self.time(max(list(self.out.values()) + [self.burnt[node] for node in self.cut.nodes]))

    def events(self):
        """The events, in order."""
        rows = [(time, "cut", index) for index, (place, time) in enumerate(self.cuts)
                if self.burnt.get(place, time + 1) > time]
        rows += [(tick, "fuse", fuse) for fuse, tick in self.out.items()]
        rows += [(tick, "light", index) for index, (_, tick) in enumerate(self.lights)]
        rows += [(self.burnt[node], "node", index) for index, node in enumerate(self.cut.nodes) if node in self.burnt]
        rows += [(tick, "trigger", index) for index, tick in self.pulled.items()]
        return [(Fraction(self.time(tick)), kind, index) for tick, kind, index in sorted(rows)]
