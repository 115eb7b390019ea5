"""Machines that go step by step: fire burns a net cut into small equal parts, one part in each tick.

All numbers must be multiples of the part, and so must all places where fire meets fire.
"""

from fractions import Fraction

from cutting import fraction


class TooCoarse(Exception):
    """Something happens that is no multiple of the part."""


class Faulty(Exception):
    """A call is a fault."""


def value_of(term, now, names):
    """The value of a term, as a Fraction."""
    if not isinstance(term, tuple):
        value = fraction(term)
    elif term[0] == "now":
        value = now
    elif term[0] == "get":
        value = names.get(term[1], Fraction(0))
    else:
        one, other = value_of(term[1], now, names), value_of(term[2], now, names)
        if term[0] == "/" and other == 0:
            raise Faulty()
        value = {"+": lambda: one + other, "-": lambda: one - other, "*": lambda: one * other, "/": lambda: one / other}[term[0]]()
    if max(abs(value.numerator), value.denominator) >= 10 ** 1000:
        raise Faulty()
    return value


def holds(condition, now, names):
    """Whether a condition holds."""
    if condition is None:
        return True
    if condition[0] == "not":
        return not holds(condition[1], now, names)
    if condition[0] == "and":
        return all([holds(inner, now, names) for inner in condition[1:]])
    one, other = value_of(condition[1], now, names), value_of(condition[2], now, names)
    return {"<": one < other, "<=": one <= other, "==": one == other}[condition[0]]


class Front:
    """Fire that runs through the cells between two spots."""

    def __init__(self, cells, goal, cause):
        self.cells, self.goal, self.cause = cells, goal, cause


class Stepping:
    """A run of a machine; the log has Fractions."""

    def __init__(self, nodes, fuses, marks, lights, rules, part):
        self.part = Fraction(part)
        self.nodes, self.rules = nodes, rules
        self.fuses = [(one, other, self.ticks(length)) for one, other, length in fuses]
        self.marks = sorted((fuse, self.ticks(at)) for fuse, at in marks)
        self.spots = list(nodes) + self.marks
        self.lights = [(self.spot(point), self.ticks(time)) for point, time in lights]
        self.ways = {spot: [] for spot in self.spots}
        for fuse, (one, other, size) in enumerate(self.fuses):
            row = [(one, 0)] + [(mark, mark[1]) for mark in self.marks if mark[0] == fuse] + [(other, size)]
            for (low, start), (high, end) in zip(row, row[1:]):
                cells = [(fuse, cell) for cell in range(start, end)]
                self.ways[low].append((fuse, 0, cells, high))
                self.ways[high].append((fuse, 1, cells[::-1], low))
        self.log, self.burnt, self.cells, self.fronts = [], {}, {}, []
        self.entries = {fuse: [] for fuse in range(len(fuses))}
        self.out, self.shut, self.waiting, self.cut = set(), set(), {}, set()
        self.names, self.faults, self.calls, self.ended, self.moments = {}, set(), 0, False, 0
        self.coming, self.signals = [], []
        self.alarms = sorted({self.ticks(event[1]) for event, _, _ in rules if event[0] == "at"})
        self.run()

    def ticks(self, number):
        """A number as ticks."""
        tick = fraction(number) / self.part
        if tick.denominator != 1:
            raise TooCoarse()
        return int(tick)

    def spot(self, point):
        """The spot of a point."""
        if isinstance(point, str):
            return point
        one, other, size = self.fuses[point[0]]
        at = self.ticks(point[1])
        return one if at == 0 else other if at == size else (point[0], at)

    def told(self, spot):
        """A spot as a point."""
        return spot if isinstance(spot, str) else (spot[0], spot[1] * self.part)

    def times_left(self):
        """The ticks at which something is due for certain."""
        found = [tick for _, tick in self.lights if tick > self.tick] + self.alarms + [tick for tick, _, _ in self.signals]
        return found + [tick for tick, spot, _ in self.coming if spot not in self.burnt]

    def run(self):
        """Goes from tick to tick until nothing is left."""
        self.tick = min([tick for _, tick in self.lights] + self.alarms)
        fresh = [index for index, (_, tick) in enumerate(self.lights) if tick == self.tick]
        while True:
            before = len(self.log)
            self.moment(fresh)
            self.moments += len(self.log) > before
            if self.ended or not self.fronts and not self.times_left():
                return
            if self.fronts:
                self.tick += 1
                self.burn_cells()
            else:
                self.tick = min(self.times_left())
            fresh = [index for index, (_, tick) in enumerate(self.lights) if tick == self.tick]

    def burn_cells(self):
        """Burns the cells in which fronts are, and moves the fronts on."""
        inside = [front.cells[0] for front in self.fronts]
        if len(set(inside)) < len(inside):
            raise TooCoarse()
        for cell in inside:
            self.cells[cell] = self.tick
        kept = []
        for front in self.fronts:
            front.cells = front.cells[1:]
            if not front.cells:
                self.coming.append((self.tick, front.goal, front.cause))
            elif front.cells[0] not in self.cells:
                kept.append(front)
        self.fronts = kept

    def moment(self, fresh):
        """All rounds of this tick."""
        while not self.ended:
            now = [(spot, cause) for tick, spot, cause in self.coming if tick == self.tick]
            self.coming = [row for row in self.coming if row[0] != self.tick]
            sent = [(name, cause) for tick, name, cause in self.signals if tick == self.tick]
            self.signals = [row for row in self.signals if row[0] != self.tick]
            noted = []
            for index in fresh:
                now.append((self.lights[index][0], self.note("light", index, None)))
            fresh = []
            for spot in self.spots:
                causes = [cause for place, cause in now if place == spot]
                if causes and spot not in self.burnt:
                    noted.append((("burn", spot), self.note("burn", self.told(spot), min(causes))))
                    self.burn(spot, noted[-1][1])
            for fuse, (_, _, size) in enumerate(self.fuses):
                if fuse not in self.out and all((fuse, cell) in self.cells for cell in range(size)):
                    self.out.add(fuse)
                    noted.append((("out", fuse), self.note("out", fuse, max(self.entries[fuse]))))
            if self.tick in self.alarms:
                self.alarms.remove(self.tick)
                noted.append((("at", self.tick), self.note("at", self.tick * self.part, None)))
            noted += [(("signal", name), self.note("signal", name, cause)) for name, cause in sent]
            if not noted and not any(tick == self.tick for tick, _, _ in self.coming + self.signals):
                return
            for event, entry in noted:
                for index, rule in enumerate(self.rules):
                    if not self.ended and index not in self.faults and self.event(rule[0]) == event:
                        self.call(index, rule, entry)

    def event(self, event):
        """An event with its spot or tick."""
        kind, what = event
        return kind, self.spot(what) if kind == "burn" else self.ticks(what) if kind == "at" else what

    def note(self, kind, what, cause):
        """Adds an entry."""
        self.log.append((self.tick * self.part, kind, what, cause))
        return len(self.log) - 1

    def burn(self, spot, cause):
        """Burns a spot."""
        self.burnt[spot] = self.tick
        if spot in self.cut:
            return
        for fuse, side, cells, goal in self.ways[spot]:
            if isinstance(spot, str) and (fuse, side) in self.shut:
                self.waiting[fuse, side] = (cells, goal)
            else:
                self.enter(fuse, cells, goal, cause)

    def enter(self, fuse, cells, goal, cause):
        """Lets fire enter cells."""
        self.entries[fuse].append(cause)
        if cells[0] not in self.cells:
            self.fronts.append(Front(cells, goal, cause))

    def call(self, index, rule, cause):
        """Calls a rule."""
        if self.calls == 500:
            self.note("limit", 500, cause)
            self.ended = True
            return
        self.calls += 1
        now, names, entry = self.tick * self.part, dict(self.names), len(self.log)
        coming, signals, cuts, gates = [], [], [], {}
        try:
            if not holds(rule[1], now, names):
                self.note("call", (index, "idle"), cause)
                return
            for action in rule[2]:
                if action[0] == "let":
                    names[action[1]] = value_of(action[2], now, names)
                elif action[0] == "cut":
                    cuts.append(self.spot(action[1]))
                elif action[0] in ("open", "close"):
                    gates[action[1:]] = action[0]
                else:
                    later = value_of(action[2], now, names)
                    if later < 0:
                        raise Faulty()
                    if action[0] == "light":
                        coming.append((now + later, self.spot(action[1]), entry))
                    else:
                        signals.append((now + later, action[1], entry))
        except Faulty:
            self.faults.add(index)
            self.note("call", (index, "fault"), cause)
            return
        self.note("call", (index, "done"), cause)
        self.names = names
        self.coming += [(self.ticks(time), spot, entry) for time, spot, entry in coming if spot not in self.burnt]
        self.signals += [(self.ticks(time), name, entry) for time, name, entry in signals]
        self.cut |= set(spot for spot in cuts if spot not in self.burnt)
        for gate, last in gates.items():
            self.shut.discard(gate)
            if last == "close":
                self.shut.add(gate)
            elif gate in self.waiting:
                cells, goal = self.waiting.pop(gate)
                self.enter(gate[0], cells, goal, entry)

    def times(self):
        """A dict from all nodes to their times."""
        return {node: self.burnt[node] * self.part if node in self.burnt else None for node in self.nodes}


def random_term(random, depth=2):
    """A term that is often a small number."""
    choice = random.random()
    if depth == 0 or choice < 0.55:
        return random.choice([0, 0, 1, 1, 2, 3, 5, -1])
    if choice < 0.65:
        return ("now",)
    if choice < 0.78:
        return ("get", random.choice(["x", "y"]))
    return (random.choice("++--*/"), random_term(random, depth - 1), random_term(random, depth - 1))


def random_condition(random, depth=2):
    """A condition that is often none."""
    choice = random.random()
    if depth == 0 or choice < 0.5:
        return None
    if choice < 0.8:
        return (random.choice(["<", "<=", "=="]), random_term(random), random_term(random))
    if choice < 0.9:
        return ("and", random_condition(random, depth - 1), random_condition(random, depth - 1))
    return ("not", random_condition(random, depth - 1))


def random_action(random, spots, marks, fuses):
    """An action."""
    kinds = ["let", "light", "send", "send"]
    if fuses:
        kinds += ["open", "open", "close", "close"]
    if marks:
        kinds += ["cut"]
    kind = random.choice(kinds)
    if kind == "let":
        return (kind, random.choice(["x", "y"]), random_term(random))
    if kind == "light":
        return (kind, random.choice(spots), random_term(random))
    if kind == "send":
        return (kind, random.choice(["s", "t"]), random_term(random))
    if kind == "cut":
        return (kind, random.choice(marks))
    return (kind, random.randrange(len(fuses)), random.randint(0, 1))


def random_rule(random, spots, marks, fuses):
    """A rule."""
    events = [("at", random.randint(-3, 8)), ("signal", random.choice(["s", "t"])), ("burn", random.choice(spots)), ("burn", random.choice(spots))]
    if fuses:
        events += [("out", random.randrange(len(fuses)))] * 2
    actions = [random_action(random, spots, marks, fuses) for _ in range(random.randint(0, 4))]
    return (random.choice(events), random_condition(random), actions)


def random_machine(random):
    """The arguments of a machine with small whole numbers: nodes, fuses, marks, lights, rules."""
    nodes = list("abcde"[:random.randint(1, 4)])
    fuses = [(random.choice(nodes), random.choice(nodes), random.randint(1, 4)) for _ in range(random.randint(0, 5))]
    places = [(fuse, at) for fuse, (_, _, length) in enumerate(fuses) for at in range(1, length)]
    marks = random.sample(places, random.randint(0, min(4, len(places))))
    spots = nodes + marks
    lights = [(random.choice(spots), random.randint(-2, 6)) for _ in range(random.randint(1, 3))]
    rules = [random_rule(random, spots, marks, fuses) for _ in range(random.randint(0, 7))]
    if fuses:
        for fuse in range(len(fuses)):
            if random.random() < 0.3:
                rules.append((("at", random.choice([-3, 0, 1])), None, [("close", fuse, random.randint(0, 1))]))
    return nodes, fuses, marks, lights, rules
