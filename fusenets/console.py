"""The console: commands in words for a workshop."""

from fusenets.burning import burnt
from fusenets.centre import best_points
from fusenets.commands import read_command
from fusenets.nets import Net
from fusenets.texts import format_fire, format_net
from fusenets.trees import fewest
from fusenets.words import number_text, point_text
from fusenets.workshop import Workshop

CHANGES = ("net", "lights", "scale", "drop", "join", "undo", "redo")


def time_text(time):
    """The text of a time, or never."""
    if time is None:
        return "never"
    return number_text(time)


def list_text(words):
    """Words with spaces between them, or the sign for none."""
    if not words:
        return "-"
    return " ".join(words)


def best_text(net):
    """The reach of the best points of a net and the stretches of these points, or never."""
    found = best_points(net)
    if found is None:
        return "never"
    best, stretches = found
    words = [f"{fuse}:{number_text(start)}:{number_text(end)}" for fuse, start, end in stretches]
    return " ".join([number_text(best)] + words)


class Console:
    """A console with a workshop of its own."""

    def __init__(self):
        self._shop = Workshop()

    def execute(self, command):
        """The answer to a command, a text."""
        word, values = read_command(command)
        if word in CHANGES:
            self._change(word, values)
            return "ok"
        if word == "names":
            return list_text(self._shop.names())
        return self._answer(word, values)

    def _change(self, word, values):
        """Does what changes the workshop."""
        user = values[0]
        if word == "undo":
            self._shop.undo(user)
        elif word == "redo":
            self._shop.redo(user)
        elif word == "net":
            self._shop.act(user, ("net", values[1], Net(values[2], values[3])))
        else:
            self._shop.act(user, tuple([word] + values[1:]))

    def _answer(self, word, values):
        """The answer to a question about a net."""
        net = self._shop.net_of(values[0])
        if word == "fewest":
            return str(fewest(net, values[1]))
        if word == "best":
            return best_text(net)
        fire = self._shop.fire_of(values[0])
        if fire is None:
            return dark_answer(word, net, values)
        if word == "show":
            return format_fire(fire)
        if word == "end":
            return time_text(fire.end())
        if word == "time":
            return time_text(fire(values[1]))
        if word == "burnt":
            return number_text(burnt(fire, values[1]))
        return list_text([point_text(point) for point in fire.last()])


def dark_answer(word, net, values):
    """The answer to a question about the fire of a net without lights."""
    if word == "show":
        return format_net(net)
    if word == "time":
        net.point(values[1])
    if word == "burnt":
        return "0"
    if word == "last":
        return "-"
    return "never"
