"""Edits of live nets: which values they are, and the net and lights to which they lead.

Lights are a list of tuples with points as they are returned.
"""

from fusenets.errors import InvalidAction, InvalidFuse, InvalidLights, InvalidNumber
from fusenets.fires import MOST_LIGHTS, as_lights, is_light
from fusenets.nets import Net, check_fuse, is_index
from fusenets.ratios import is_positive

SIZES = {"node": 2, "fuse": 4, "cut": 2, "length": 3, "light": 3, "dark": 2}


def is_edit(value):
    """Whether any value is a tuple with the first item and the length of an edit."""
    if not isinstance(value, tuple) or len(value) == 0 or not isinstance(value[0], str):
        return False
    return value[0] in SIZES and len(value) == SIZES[value[0]]


def after_edit(net, lights, edit):
    """The net and the lights after an edit; raises the error of one that cannot be made."""
    if not is_edit(edit):
        raise InvalidAction(edit)
    kind = edit[0]
    if kind == "node":
        return with_node(net, edit[1]), lights
    if kind == "fuse":
        return with_fuse(net, edit[1:]), lights
    if kind == "cut":
        return without_fuse(net, lights, edit[1])
    if kind == "length":
        return with_length(net, lights, edit[1], edit[2]), lights
    if kind == "light":
        return net, with_light(net, lights, edit[1:])
    return net, without_light(lights, edit[1])


def with_node(net, name):
    """The net with another node at the end; a net that cannot be made raises the error of the edit."""
    return Net(net.nodes + [name], net.fuses)


def with_fuse(net, fuse):
    """The net with another fuse at the end; a net that cannot be made raises the error of the edit."""
    return Net(net.nodes, net.fuses + [fuse])


def distances_inside(lights, fuse):
    """The distances of the lights strictly inside a fuse."""
    return [point[1] for point, _ in lights if not isinstance(point, str) and point[0] == fuse]


def without_fuse(net, lights, fuse):
    """The net without a fuse, and the lights with the new indexes of the later fuses."""
    check_fuse(net, fuse)
    if distances_inside(lights, fuse):
        raise InvalidFuse(fuse)
    rest = net.fuses
    del rest[fuse]
    return Net(net.nodes, rest), [(moved_down(point, fuse), time) for point, time in lights]


def moved_down(point, fuse):
    """A point on none of the inner places of a fuse, with its index when this fuse is removed."""
    if isinstance(point, str) or point[0] < fuse:
        return point
    return point[0] - 1, point[1]


def with_length(net, lights, fuse, length):
    """The net with another length of a fuse."""
    check_fuse(net, fuse)
    if not is_positive(length) or not all([distance < length for distance in distances_inside(lights, fuse)]):
        raise InvalidNumber(length)
    fuses = net.fuses
    one, other, _ = fuses[fuse]
    fuses[fuse] = (one, other, length)
    return Net(net.nodes, fuses)


def with_light(net, lights, light):
    """The lights with another one at the end."""
    if not is_light(net, light) or len(lights) >= MOST_LIGHTS:
        raise InvalidLights(len(lights))
    return lights + as_lights(net, [light])


def without_light(lights, index):
    """The lights without one of them."""
    if not is_index(index, len(lights)):
        raise InvalidLights(index)
    return lights[:index] + lights[index + 1:]
