"""Agendas: what is due, in the order of its times; of equal times, what was put there first comes first."""


class Agenda:
    """Tuples (time, what); the next one stands at the end."""

    def __init__(self):
        self.rows = []

    def put(self, time, what):
        """Adds something that is due at a time."""
        low, high = 0, len(self.rows)
        while low < high:
            middle = (low + high) // 2
            if self.rows[middle][0] > time:
                low = middle + 1
            else:
                high = middle
        self.rows.insert(low, (time, what))

    def first(self):
        """The tuple that comes next, or None."""
        if not self.rows:
            return None
        return self.rows[-1]

    def drop_first(self):
        """Removes the tuple that comes next."""
        self.rows.pop()

    def take(self, time):
        """Removes all that is due at the time that comes next, and returns it in order."""
        found = []
        while self.rows and self.rows[-1][0] == time:
            found.append(self.rows.pop()[1])
        return found
