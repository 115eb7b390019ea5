"""Commands of the console: their forms, and the values that their words stand for."""

from fusenets.errors import InvalidCommand
from fusenets.nets import is_word
from fusenets.words import number_of, point_of

FORMS = {
    "net": ("word", "word", "nodes", "fuses"),
    "lights": ("word", "word", "lights"),
    "scale": ("word", "word", "number"),
    "drop": ("word", "word"),
    "join": ("word", "word", "word", "pairs"),
    "undo": ("word",),
    "redo": ("word",),
    "names": (),
    "show": ("word",),
    "end": ("word",),
    "time": ("word", "point"),
    "burnt": ("word", "number"),
    "last": ("word",),
    "fewest": ("word", "number"),
    "best": ("word",),
}
ITEMS = {
    "nodes": ("word",),
    "fuses": ("word", "word", "number"),
    "lights": ("point", "number"),
    "pairs": ("word", "word"),
}


def read_word(kind, text):
    """What a word of a kind stands for, or None."""
    if kind == "number":
        return number_of(text)
    if kind == "point":
        return point_of(text)
    if kind == "word":
        return text if is_word(text) else None
    return read_list(kind, text)


def read_words(kinds, texts):
    """The list of what words stand for, or None if one is not of its kind."""
    if len(texts) != len(kinds):
        return None
    values = [read_word(kind, text) for kind, text in zip(kinds, texts)]
    if None in values:
        return None
    return values


def read_list(kind, text):
    """The list for which a word with commas stands, or None."""
    if text == "-":
        return []
    rows = [read_words(ITEMS[kind], item.split(":")) for item in text.split(",")]
    if None in rows:
        return None
    if kind == "nodes":
        return [row[0] for row in rows]
    return [tuple(row) for row in rows]


def read_command(command):
    """The first word of a command, and the list of what the others stand for."""
    if not isinstance(command, str):
        raise InvalidCommand(command)
    words = command.split(" ")
    if words[0] not in FORMS:
        raise InvalidCommand(command)
    values = read_words(FORMS[words[0]], words[1:])
    if values is None:
        raise InvalidCommand(command)
    return words[0], values
