"""Rules of courses: which values may stand for them, and what they are in whole numbers."""

from fusenets.errors import InvalidRules
from fusenets.nets import is_index, whole_point
from fusenets.ratios import as_ratio, is_number, whole

MOST_RULES = 20


def is_wait(value):
    """Whether any value is a number of at least 0."""
    return is_number(value) and value >= 0


def is_row(value, size):
    """Whether any value is a tuple of this size."""
    return isinstance(value, tuple) and len(value) == size


def are_delays(net, value):
    """Whether any value is a dict from nodes to numbers of at least 0, or None."""
    if value is None:
        return True
    return isinstance(value, dict) and all([node in net and is_wait(value[node]) for node in value])


def is_listed(value):
    """Whether any value is a list or tuple that is not too long."""
    return isinstance(value, (list, tuple)) and len(value) <= MOST_RULES


def is_valve(net, value):
    """Whether any value is a tuple (fuse, side)."""
    return is_row(value, 2) and is_index(value[0], len(net)) and is_index(value[1], 2)


def are_valves(net, value):
    """Whether any value is a list or tuple of valves."""
    return is_listed(value) and all([is_valve(net, valve) for valve in value])


def is_cut(net, value):
    """Whether any value is a tuple (fuse, distance, time) with a place strictly inside the fuse."""
    if not is_row(value, 3) or not is_index(value[0], len(net)):
        return False
    distance, time = value[1:]
    if not is_number(distance) or not is_number(time):
        return False
    return 0 < distance < net.fuses[value[0]][2]


def cut_places(cuts):
    """The places of cuts, as they are returned."""
    return [(fuse, as_ratio(distance)) for fuse, distance, _ in cuts]


def are_cuts(fire, value):
    """Whether any value is a list or tuple of cuts at different places without a light."""
    if not is_listed(value) or not all([is_cut(fire.net, cut) for cut in value]):
        return False
    taken = [point for point, _ in fire.lights]
    for place in cut_places(value):
        if place in taken:
            return False
        taken.append(place)
    return True


def is_trigger(net, barred, value):
    """Whether any value is a tuple (fuse, point, delay) with a point at none of the barred places."""
    if not is_row(value, 3) or not is_index(value[0], len(net)):
        return False
    point, delay = value[1:]
    return net.is_point(point) and net.point(point) not in barred and is_wait(delay)


def are_triggers(net, cuts, value):
    """Whether any value is a list or tuple of triggers, none at the place of a cut."""
    barred = cut_places(cuts)
    return is_listed(value) and all([is_trigger(net, barred, trigger) for trigger in value])


def check_rules(fire, delays, valves, cuts, triggers):
    """Raises InvalidRules with the first part of the rules that is not as described."""
    if not are_delays(fire.net, delays):
        raise InvalidRules("delays")
    if not are_valves(fire.net, valves):
        raise InvalidRules("valves")
    if not are_cuts(fire, cuts):
        raise InvalidRules("cuts")
    if not are_triggers(fire.net, cuts, triggers):
        raise InvalidRules("triggers")


class Rules:
    """Valid rules, with points as they are returned; all numbers may be made whole."""

    def __init__(self, net, delays, valves, cuts, triggers):
        self.delays = {}
        if delays is not None:
            self.delays = {node: delays[node] for node in delays}
        self.valves = {(fuse, side): True for fuse, side in valves}
        self.cuts = [((fuse, as_ratio(distance)), time) for fuse, distance, time in cuts]
        self.triggers = [(fuse, net.point(point), delay) for fuse, point, delay in triggers]

    def numbers(self):
        """All lengths, distances and times in the rules."""
        found = [self.delays[node] for node in self.delays]
        for place, time in self.cuts:
            found.extend([place[1], time])
        for _, point, delay in self.triggers:
            found.append(delay)
            if not isinstance(point, str):
                found.append(point[1])
        return found

    def make_whole(self, scale):
        """Multiplies all numbers by a scale that makes them whole."""
        self.delays = {node: whole(self.delays[node], scale) for node in self.delays}
        self.cuts = [(whole_point(place, scale), whole(time, scale)) for place, time in self.cuts]
        self.triggers = [(fuse, whole_point(point, scale), whole(delay, scale))
                         for fuse, point, delay in self.triggers]
