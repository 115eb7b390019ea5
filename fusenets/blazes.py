"""Blazes: how fire runs from spot to spot, waits at gates, and stops at marks that are cut.

What is put on the agenda is a tuple (kind, what, cause): `fire` that comes to a spot, and
`out` for a fuse that will be burnt out. Causes are indexes in the log.
"""


class Blaze:
    """Fire in a setting."""

    def __init__(self, setting, agenda):
        self.agenda = agenda
        self.spans = setting.new_spans()
        self.beside = [[] for _ in setting.points]
        for span in self.spans:
            for side, spot in enumerate(span.ends):
                self.beside[spot].append((span, side))
        self.nodes_before = len(setting.lit_net.nodes)
        self.burnt_at = {}
        self.expected = {}
        self.noted = {}
        self.shut = {}
        self.waiting = {}
        self.stopped = {}

    def is_due(self, kind, what):
        """Whether something on the agenda is still due."""
        if kind == "fire":
            return what not in self.burnt_at
        return kind != "out" or what not in self.noted

    def burn(self, spot, now, cause):
        """Burns a spot, and lets fire enter the parts beside it, or wait there."""
        self.burnt_at[spot] = now
        if spot in self.stopped:
            return
        for span, side in self.beside[spot]:
            gate = (span.fuse, side)
            if spot < self.nodes_before and gate in self.shut:
                self.waiting[gate] = (span, side)
            else:
                self.enter(span, side, now, cause)

    def enter(self, span, side, now, cause):
        """Lets fire enter a part at one of its ends."""
        span.entered[side] = (now, cause)
        self.agenda.put(now + span.size, ("fire", span.ends[1 - side], cause))
        out = self.burnt_out(span.fuse)
        if out is not None and self.expected.get(span.fuse) != out:
            self.expected[span.fuse] = out
            self.agenda.put(out, ("out", span.fuse, None))

    def burnt_out(self, fuse):
        """The time at which a fuse is burnt out by the known entries, or None."""
        result = None
        for span in self.spans:
            if span.fuse == fuse:
                time = span.out_time()
                if time is None:
                    return None
                if result is None or time > result:
                    result = time
        return result

    def note_outs(self, now):
        """The fuses that are burnt out at a time and were not noted before, ascending."""
        fuses = [fuse for fuse in self.expected if fuse not in self.noted and self.expected[fuse] == now]
        for fuse in fuses:
            self.noted[fuse] = True
        return sorted([int(fuse) for fuse in fuses])

    def out_cause(self, fuse):
        """The greatest index of the entries by which fire entered the parts of a fuse."""
        found = [entry[1] for span in self.spans if span.fuse == fuse for entry in span.entered if entry is not None]
        return max([int(cause) for cause in found])

    def cut(self, spot):
        """Cuts a mark; if it has burnt, fire has left it already, so this has no effect."""
        self.stopped[spot] = True

    def shut_gate(self, gate):
        """Closes a gate."""
        self.shut[gate] = True

    def free_gate(self, gate, now, cause):
        """Opens a gate, and lets the fire enter that waits there."""
        if gate in self.shut:
            del self.shut[gate]
        if gate in self.waiting:
            span, side = self.waiting.pop(gate)
            self.enter(span, side, now, cause)
