"""Journals, which are recovered from their texts, and replicas, which are merged."""

from fusenets.commands import read_command
from fusenets.console import CHANGES, Console
from fusenets.errors import (Blocked, InvalidAction, InvalidCommand, InvalidName, InvalidText, LimitExceeded, NetError,
                             NothingToUndo, UnknownName)
from fusenets.nets import is_word
from fusenets.ratios import in_order, is_integer
from fusenets.rules import is_row

FACTOR = 257
DIVISOR = 9999991


def check_number(number, text):
    """The check number of a text behind a number."""
    for letter in text:
        number = (number * FACTOR + ord(letter)) % DIVISOR
    return number


def is_recorded(command):
    """Whether any value is a command of those that change the workshop."""
    try:
        word, _ = read_command(command)
    except InvalidCommand:
        return False
    return word in CHANGES


def line_of(index, command, check):
    """The line of a journal for a command, behind a check number, and its own check number."""
    head = f"{index} {command}"
    number = check_number(check, head)
    return f"{head} #{number:07d}", number


def command_in(index, line):
    """The command in a line of a journal, if it is one with this index and any check number."""
    return line[len(f"{index} "):].rpartition(" #")[0]


def can_execute(console, command):
    """Executes a command; whether it raises no error."""
    try:
        console.execute(command)
    except (NetError, Blocked, LimitExceeded, NothingToUndo, UnknownName):
        return False
    return True


class Journal:
    """A console that records the commands that change its workshop."""

    def __init__(self):
        self._console = Console()
        self._lines = []
        self._check = 0

    def execute(self, command):
        """The answer to a command."""
        answer = self._console.execute(command)
        if is_recorded(command):
            line, self._check = line_of(len(self._lines), command, self._check)
            self._lines.append(line)
        return answer

    def text(self):
        """The lines of the journal."""
        return "\n".join(self._lines)

    def __len__(self):
        return len(self._lines)

    def accepts(self, line):
        """Executes the command in a line; whether this is what the journal's next line can be."""
        index = len(self._lines)
        command = command_in(index, line)
        if not is_recorded(command) or line_of(index, command, self._check)[0] != line:
            return False
        return can_execute(self, command)


def recover(text):
    """A journal with the longest beginning of the lines of a text that are those of a journal."""
    if not isinstance(text, str):
        raise InvalidText(None)
    journal = Journal()
    for line in text.split("\n"):
        if not journal.accepts(line):
            return journal
    return journal


def is_own(user, command):
    """Whether any value is a command that changes the workshop, with this user."""
    return is_recorded(command) and read_command(command)[1][0] == user


def is_entry(value):
    """Whether any value is a tuple (stamp, user, command) with a command of this user."""
    if not is_row(value, 3):
        return False
    stamp, user, command = value
    return is_integer(stamp) and stamp >= 1 and is_word(user) and is_own(user, command)


def ordered(commands):
    """The entries, by stamp and then by user, of a dict from users to dicts from stamps to commands."""
    rows = []
    for user in sorted([str(user) for user in commands]):
        rows.extend([(stamp, user, commands[user][stamp]) for stamp in commands[user]])
    return in_order(rows)


class Replica:
    """Commands of several users, executed in the order of their stamps and users."""

    def __init__(self, user):
        if not is_word(user):
            raise InvalidName(user)
        self._owner = user
        # Dicts from users to dicts from stamps to commands, and the same as entries in order.
        self._commands = {}
        self._rows = []
        self._console = Console()
        self._refused = []

    def execute(self, command):
        """The answer to a command, in the replica's state."""
        word, values = read_command(command)
        if word in CHANGES and values[0] != self._owner:
            raise InvalidCommand(command)
        answer = self._console.execute(command)
        if word in CHANGES:
            stamp = 1 + (self._rows[-1][0] if self._rows else 0)
            self._keep(stamp, self._owner, command)
            self._rows.append((stamp, self._owner, command))
        return answer

    def _keep(self, stamp, user, command):
        """Keeps the command of an entry that is new."""
        self._commands.setdefault(user, {})[stamp] = command

    def merge(self, entries):
        """Adds entries, and returns the number of new ones."""
        if not isinstance(entries, list):
            raise InvalidAction(entries)
        new = self._new_among(entries)
        for stamp, user in new:
            self._keep(stamp, user, new[(stamp, user)])
        if new:
            self._rows = ordered(self._commands)
            self._execute_all()
        return len(new)

    def _new_among(self, entries):
        """A dict from the stamps and users of the entries that are not here to their commands."""
        new = {}
        for entry in entries:
            if not is_entry(entry):
                raise InvalidAction(entry)
            stamp, user, command = entry
            known = new.get((stamp, user), self._commands.get(user, {}).get(stamp))
            if known is None:
                new[(stamp, user)] = command
            elif known != command:
                raise InvalidAction(entry)
        return new

    def _execute_all(self):
        """Executes the commands of all entries in order, from an empty console on."""
        self._console = Console()
        self._refused = []
        for entry in self._rows:
            if not can_execute(self._console, entry[2]):
                self._refused.append(entry)

    def entries(self):
        """A list of all entries, in order."""
        return list(self._rows)

    def skipped(self):
        """The entries whose commands raise errors, in order."""
        return list(self._refused)

    def __len__(self):
        return len(self._rows)
