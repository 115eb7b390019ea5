"""Certificates: ways that show how early a point burns, and labels that show how late."""

from fusenets.nets import is_index
from fusenets.ratios import is_number, total
from fusenets.spreading import exits, lesser, neighbours, straight


def way_to(fire, point):
    """A way for a point whose sum is its time, or None."""
    time = fire(point)
    if time is None:
        return None
    here = fire.net.point(point)
    nodes = []
    while light_giving(fire, here, time) is None:
        here, time = step_back(fire, here, time)
        nodes.append(here)
    return light_giving(fire, here, time), nodes[::-1]


def light_giving(fire, point, time):
    """The least index of a light that gives a point its time without a node between, or None."""
    for index, (place, start) in enumerate(fire.lights):
        length = step_length(fire.net.fuses, place, point)
        if length is not None and start + length == time:
            return index
    return None


def step_back(fire, point, time):
    """A node from which fire comes to a point at its time along one fuse, and the node's time."""
    times = fire.times()
    for node, length in steps_from(fire.net.fuses, point):
        if times[node] + length == time:
            return node, times[node]
    return None


def steps_from(fuses, point):
    """The nodes that one fuse joins with a point, with the lengths on it."""
    if isinstance(point, str):
        return neighbours(fuses, point)
    return exits(fuses, point)


def step_length(fuses, one, other):
    """The least length of a step between two points, or None if there is none."""
    result = straight(one, other)
    if isinstance(other, str):
        one, other = other, one
    if isinstance(one, str):
        for node, length in steps_from(fuses, other):
            if node == one:
                result = lesser(result, length)
    return result


def is_way(fire, value):
    """Whether any value is a tuple of the index of a light and a list of nodes."""
    if not isinstance(value, tuple) or len(value) != 2:
        return False
    light, nodes = value
    if not is_index(light, len(fire.lights)) or not isinstance(nodes, list):
        return False
    net = fire.net
    return all([node in net for node in nodes])


def way_sum(fire, point, way):
    """The sum of a way, or None if any value is not a way for the point."""
    goal = fire.net.point(point)
    if not is_way(fire, way):
        return None
    light, nodes = way
    place, time = fire.lights[light]
    fuses = fire.net.fuses
    points = [place] + nodes + [goal]
    lengths = [step_length(fuses, here, there) for here, there in zip(points, points[1:])]
    if None in lengths:
        return None
    return time + total(lengths)


def labels_for(fire):
    """Labels that hold and are the times of the nodes, or None if some node never burns."""
    times = fire.times()
    if None in list(times.values()):
        return None
    return times


def are_labels(net, value):
    """Whether any value is a dict from exactly the nodes to numbers."""
    if not isinstance(value, dict) or len(value) != len(net.nodes):
        return False
    return all([is_number(value.get(node)) for node in net.nodes])


def check_labels(fire, value):
    """Whether any value is labels that hold."""
    if not are_labels(fire.net, value):
        return False
    fuses = fire.net.fuses
    for one, other, length in fuses:
        if abs(value[one] - value[other]) > length:
            return False
    for point, time in fire.lights:
        for node, distance in exits(fuses, point):
            if value[node] > time + distance:
                return False
    return True
