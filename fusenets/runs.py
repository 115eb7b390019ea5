"""Runs of machines that are stopped behind any moment, saved and resumed."""

from fusenets.errors import InvalidNumber, InvalidText
from fusenets.nets import is_index


class Run:
    """A run of a machine, moment by moment."""

    def __init__(self, machine):
        self._engine = machine.engine()

    def step(self):
        """Goes through the next moment, and returns the new entries of the log."""
        return self._engine.go_on()

    def now(self):
        """The last moment, or None."""
        return self._engine.moment

    def log(self):
        """All entries of the log so far."""
        return list(self._engine.rows)

    def is_over(self):
        """Whether nothing is left."""
        return self._engine.is_done()

    def save(self):
        """The text from which the run can be resumed."""
        return f"run {self._engine.moments} {len(self._engine.rows)}"

    @classmethod
    def resumed(cls, machine, text):
        """The run of a machine that was saved with a text."""
        if not isinstance(text, str):
            raise InvalidText(None)
        run = cls(machine)
        while run.save() != text:
            if run.is_over():
                raise InvalidText(None)
            run.step()
        return run

    def _entry(self, index):
        """The entry of the log so far with an index."""
        if not is_index(index, len(self._engine.rows)):
            raise InvalidNumber(index)
        return self._engine.rows[index]

    def causes(self, index):
        """The indexes of an entry, of its cause, of the cause of that, and so on."""
        entry = self._entry(index)
        found = [index]
        while entry[3] is not None:
            found.append(entry[3])
            entry = self._entry(entry[3])
        return found

    def effects(self, index):
        """The indexes of all entries so far whose causes lead to an entry, without it."""
        self._entry(index)
        found = {index: True}
        for place, entry in enumerate(self._engine.rows):
            if entry[3] in found:
                found[place] = True
        return [place for place in found if place != index]
