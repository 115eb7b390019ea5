"""The engine: a run of a machine, moment by moment, with its log."""

from fusenets.agenda import Agenda
from fusenets.blazes import Blaze
from fusenets.programs import effects_of
from fusenets.terms import Fault

MOST_CALLS = 500


class Engine:
    """A run that has not begun; lights are tuples (spot, time), rules are made ones."""

    def __init__(self, setting, lights, rules):
        self.points = setting.points
        self.lit_at = lights
        self.program = rules
        self.agenda = Agenda()
        self.blaze = Blaze(setting, self.agenda)
        self.rows = []
        self.watching = {}
        self.bound = {}
        self.faulty = {}
        self.calls = 0
        self.moments = 0
        self.moment = None
        self.is_stopped = False
        for index, (_, time) in enumerate(lights):
            self.agenda.put(time, ("light", index, None))
        self.watch_events()

    def watch_events(self):
        """Notes by which events each rule is called; each moment of `at` rules has an index of its own."""
        moments = []
        for index, (event, _, _) in enumerate(self.program):
            if event[0] == "at":
                time = event[1]
                if time not in moments:
                    self.agenda.put(time, ("at", len(moments), None))
                    moments.append(time)
                event = ("at", moments.index(time))
            self.watching.setdefault(event, []).append(index)

    def next_time(self):
        """The time at which something is due next, or None; forgets what is not due any more."""
        row = self.agenda.first()
        while row is not None and not self.blaze.is_due(row[1][0], row[1][1]):
            self.agenda.drop_first()
            row = self.agenda.first()
        if row is None:
            return None
        return row[0]

    def is_done(self):
        """Whether nothing is left."""
        return self.is_stopped or self.next_time() is None

    def go_on(self):
        """Goes through the next moment, and returns the new entries of the log."""
        start = len(self.rows)
        if self.is_done():
            return []
        self.moment = self.next_time()
        self.moments += 1
        while not self.is_done() and self.next_time() == self.moment:
            self.go_round()
        return self.rows[start:]

    def go_round(self):
        """Does what is due at this moment, once."""
        due = self.agenda.take(self.moment)
        events = self.note_burnings(due) + self.note_outs() + self.note_signals(due)
        for event, entry in events:
            for rule in self.watching.get(event, []):
                self.call(rule, entry)

    def note(self, kind, what, cause):
        """Adds an entry to the log, and returns its index."""
        self.rows.append((self.moment, kind, what, cause))
        return len(self.rows) - 1

    def note_burnings(self, due):
        """Notes the lights that are due, and burns the spots that lights and fire reach."""
        comings = []
        for light in sorted([int(what) for kind, what, _ in due if kind == "light"]):
            comings.append((self.lit_at[light][0], self.note("light", light, None)))
        comings.extend([(what, cause) for kind, what, cause in due if kind == "fire"])
        causes = {}
        for spot, cause in comings:
            causes[spot] = min(int(cause), int(causes.get(spot, cause)))
        events = []
        for spot in sorted([int(spot) for spot in causes]):
            if spot not in self.blaze.burnt_at:
                entry = self.note("burn", self.points[spot], causes[spot])
                self.blaze.burn(spot, self.moment, entry)
                events.append((("burn", spot), entry))
        return events

    def note_outs(self):
        """Notes the fuses that are burnt out."""
        fuses = self.blaze.note_outs(self.moment)
        return [(("out", fuse), self.note("out", fuse, self.blaze.out_cause(fuse))) for fuse in fuses]

    def note_signals(self, due):
        """Notes the moment of `at` rules, then the signals that are due."""
        events = [(("at", what), self.note("at", self.moment, None)) for kind, what, _ in due if kind == "at"]
        signals = [(what, cause) for kind, what, cause in due if kind == "send"]
        return events + [(("signal", name), self.note("signal", name, cause)) for name, cause in signals]

    def call(self, rule, cause):
        """Calls a rule for an entry, unless it had a fault or the run has ended."""
        if self.is_stopped or rule in self.faulty:
            return
        if self.calls == MOST_CALLS:
            self.note("limit", MOST_CALLS, cause)
            self.is_stopped = True
            return
        self.calls += 1
        # The effects name the entry of the call, which is the next one.
        result = self.result_of(rule, len(self.rows))
        self.note("call", (rule, result), cause)

    def result_of(self, rule, entry):
        """Makes a rule's actions, if its condition holds; returns what becomes of the call."""
        try:
            effects = effects_of(self.program[rule], self.moment, self.bound)
        except Fault:
            self.faulty[rule] = True
            return "fault"
        if effects is None:
            return "idle"
        self.take_effect(effects, entry)
        return "done"

    def take_effect(self, effects, entry):
        """Lets the effects of a call happen."""
        self.bound = effects.bound
        for kind, what, delay in effects.sent:
            row = ("fire" if kind == "light" else kind, what, entry)
            self.agenda.put(self.moment + delay, row)
        for spot in effects.stops:
            self.blaze.cut(spot)
        for gate in effects.gates:
            if effects.gates[gate]:
                self.blaze.free_gate(gate, self.moment, entry)
            else:
                self.blaze.shut_gate(gate)
