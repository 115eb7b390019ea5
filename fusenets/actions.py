"""Actions of a workshop: which values they are, and the nets and lights to which they lead.

Nets are a dict from names to tuples (net, lights), with lights as they are returned. An
action leads to a new dict; the dicts, and the lists in them, never change.
"""

from fusenets.errors import InvalidAction, InvalidJoin, InvalidNumber, LimitExceeded, NameTaken, UnknownName
from fusenets.fires import MOST_LIGHTS, as_lights, check_lights
from fusenets.joining import joined, new_names
from fusenets.nets import Net, is_word
from fusenets.ratios import is_positive

MOST_NETS = 20
SIZES = {"net": 3, "drop": 2, "lights": 3, "scale": 3, "join": 4}


def is_action(value):
    """Whether any value is a tuple with the form, the names and the net of an action."""
    if not isinstance(value, tuple) or len(value) == 0 or not isinstance(value[0], str):
        return False
    kind = value[0]
    if kind not in SIZES or len(value) != SIZES[kind] or not is_word(value[1]):
        return False
    if kind == "net":
        return isinstance(value[2], Net)
    return kind != "join" or is_word(value[2])


def copied(action):
    """The same action with lists of its own."""
    return tuple([list(item) if isinstance(item, list) else item for item in action])


def after_action(nets, action):
    """The nets and lights after an action; raises the error of one that cannot be made."""
    if not is_action(action):
        raise InvalidAction(action)
    kind, name = action[:2]
    if kind == "net":
        return after_net(nets, name, action[2])
    if name not in nets:
        raise UnknownName(name)
    result = {known: nets[known] for known in nets}
    if kind == "drop":
        del result[name]
    elif kind == "lights":
        result[name] = lit(nets[name][0], action[2])
    elif kind == "scale":
        result[name] = scaled(nets[name], action[2])
    else:
        other = action[2]
        if other not in nets:
            raise UnknownName(other)
        if other == name:
            raise InvalidJoin(other)
        result[name] = put_together(nets[name], nets[other], action[3])
        del result[other]
    return result


def after_net(nets, name, net):
    """The nets and lights after a net without lights is added."""
    if name in nets:
        raise NameTaken(name)
    if len(nets) >= MOST_NETS:
        raise LimitExceeded(MOST_NETS)
    return {**nets, name: (net, [])}


def lit(net, lights):
    """A net with lights, or with none."""
    if isinstance(lights, list) and len(lights) == 0:
        return net, []
    check_lights(net, lights)
    return net, as_lights(net, lights)


def scaled(pair, number):
    """A net and its lights with all lengths, distances and times multiplied by a number."""
    if not is_positive(number):
        raise InvalidNumber(number)
    net, lights = pair
    moved = [(scaled_point(point, number), time * number) for point, time in lights]
    return net * number, moved


def scaled_point(point, number):
    """A point with its distance multiplied by a number."""
    if isinstance(point, str):
        return point
    return point[0], point[1] * number


def put_together(pair, other_pair, pairs):
    """Two nets and their lights as one, with some nodes put together."""
    net, lights = pair
    other, other_lights = other_pair
    whole_net = joined(net, other, pairs)
    names = new_names(net, other, pairs)
    moved = []
    for point, time in other_lights:
        if isinstance(point, str):
            moved.append((names[point], time))
        else:
            moved.append(((point[0] + len(net), point[1]), time))
    if len(lights) + len(moved) > MOST_LIGHTS:
        raise LimitExceeded(MOST_LIGHTS)
    return whole_net, lights + moved
