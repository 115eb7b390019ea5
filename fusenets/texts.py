"""The texts of numbers, points, nets and fires: writing and reading them."""

from fusenets.errors import InvalidText
from fusenets.fires import MOST_LIGHTS, Fire
from fusenets.nets import MOST_FUSES, Net, are_nodes
from fusenets.words import number_of, number_text, point_of, point_text


def format_number(number):
    """The text of a number."""
    return number_text(number)


def format_point(point):
    """The text of a point, as it is returned."""
    return point_text(point)


def format_net(net):
    """The text of a net."""
    lines = [" ".join(["nodes"] + net.nodes)]
    lines.extend([f"fuse {one} {other} {number_text(length)}" for one, other, length in net.fuses])
    return "\n".join(lines)


def format_fire(fire):
    """The text of a fire."""
    lights = [f"light {point_text(point)} {number_text(time)}" for point, time in fire.lights]
    return "\n".join([format_net(fire.net)] + lights)


def lines_of(text):
    """The lines of a text; raises InvalidText if any value is none."""
    if not isinstance(text, str):
        raise InvalidText(None)
    return text.split("\n")


def check_single(value, lines):
    """Raises InvalidText if the first line has no value, or another line follows."""
    if value is None:
        raise InvalidText(0)
    if len(lines) > 1:
        raise InvalidText(1)


def parse_number(text):
    """The number with this text."""
    lines = lines_of(text)
    number = number_of(lines[0])
    check_single(number, lines)
    return number


def parse_point(text):
    """The node, or place in any net, with this text."""
    lines = lines_of(text)
    point = point_of(lines[0])
    check_single(point, lines)
    return point


def fuse_of(nodes, line):
    """The fuse between some nodes with this line, or None."""
    words = line.split(" ")
    if len(words) != 4 or words[0] != "fuse" or words[1] not in nodes or words[2] not in nodes:
        return None
    length = number_of(words[3])
    if length is None or length <= 0:
        return None
    return words[1], words[2], length


def net_of_lines(lines):
    """The net with these lines."""
    words = lines[0].split(" ")
    nodes = words[1:]
    if words[0] != "nodes" or not are_nodes(nodes):
        raise InvalidText(0)
    fuses = []
    for index in range(1, len(lines)):
        fuse = fuse_of(nodes, lines[index])
        if fuse is None or len(fuses) == MOST_FUSES:
            raise InvalidText(index)
        fuses.append(fuse)
    return Net(nodes, fuses)


def parse_net(text):
    """The net with this text."""
    return net_of_lines(lines_of(text))


def light_of(net, line):
    """The light of a net with this line, or None."""
    words = line.split(" ")
    if len(words) != 3 or words[0] != "light":
        return None
    point = point_of(words[1])
    time = number_of(words[2])
    if point is None or time is None or not net.is_point(point) or net.point(point) != point:
        return None
    return point, time


def first_light_line(lines):
    """The index of the first line behind the first one that is not for a fuse."""
    for index in range(1, len(lines)):
        if lines[index].split(" ")[0] != "fuse":
            return index
    return len(lines)


def parse_fire(text):
    """The fire with this text."""
    lines = lines_of(text)
    start = first_light_line(lines)
    net = net_of_lines(lines[:start])
    lights = []
    for index in range(start, len(lines)):
        light = light_of(net, lines[index])
        if light is None or len(lights) == MOST_LIGHTS:
            raise InvalidText(index)
        lights.append(light)
    if not lights:
        raise InvalidText(len(lines))
    return Fire(net, lights)
