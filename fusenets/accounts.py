"""Accounts: why each spot of a course burns. Inside, all numbers are whole."""

from fusenets.errors import InvalidPoint
from fusenets.fields import Field
from fusenets.nets import scale_of, whole_point
from fusenets.ratios import Ratio, in_order, is_integer, is_number, whole
from fusenets.rules import Rules, check_rules, is_row

SIZES = {"light": 2, "trigger": 2, "fuse": 3}


class Known:
    """The times of some spots of a field that fire has entered from them, and what they tell."""

    def __init__(self, field, times):
        self.field = field
        self.known_times = times
        self.set_times = field.trigger_times()

    def set_lights(self):
        """The tuples (kind, index, spot, time) of all lights, and of triggers whose fuses are burnt out."""
        rows = [("light", index, spot, time) for index, (spot, time) in enumerate(self.field.lit_at)]
        for index, (_, spot, _) in enumerate(self.field.rules.triggers):
            if self.set_times[index] is not None:
                rows.append(("trigger", index, spot, self.set_times[index]))
        return rows

    def runs_to(self, spot):
        """The tuples (fuse, side, spot before, time) of all fire that runs to a spot, by fuse and side."""
        found = {}
        for part, end in self.field.beside[spot]:
            side = 1 - end
            if part.entered[side] is not None:
                found[2 * part.fuse + side] = (part.ends[side], part.entered[side] + part.size)
        return [(key // 2, key % 2, found[key][0], found[key][1]) for key in sorted([int(key) for key in found])]

    def reasons_for(self, spot):
        """All reasons that a spot with a time has, in order."""
        time = self.known_times[spot]
        rows = [(kind, index) for kind, index, goal, start in self.set_lights() if goal == spot and start == time]
        rows.extend([("fuse", fuse, side) for fuse, side, _, start in self.runs_to(spot) if start == time])
        return rows

    def spot_before(self, spot):
        """The spot because of which a spot burns, or None if it is a light or a trigger."""
        reason = self.reasons_for(spot)[0]
        for fuse, side, before, _ in self.runs_to(spot):
            if ("fuse", fuse, side) == reason:
                return before
        return None

    def is_complete(self):
        """Whether no spot could burn earlier, or without a time."""
        rows = [(spot, time) for _, _, spot, time in self.set_lights()]
        for spot in self.field.spots():
            rows.extend([(spot, time) for _, _, _, time in self.runs_to(spot)])
        return all([spot in self.known_times and self.known_times[spot] <= time for spot, time in rows])


def known_of(course):
    """What the times of a course tell."""
    return Known(course.inside(), course.spot_times())


def told_spot(field, spot):
    """A spot as it is returned."""
    if isinstance(spot, str):
        return spot
    return spot[0], Ratio(spot[1], field.scale)


def spot_at(course, point):
    """The spot at a point; raises InvalidPoint if any value is not a point of a spot."""
    place = course.burnt_net().point(point)
    field = course.inside()
    for spot in field.spots():
        if told_spot(field, spot) == place:
            return spot
    raise InvalidPoint(point)


def account(course):
    """An account that holds, in the order of times and points, with the first reasons."""
    known = known_of(course)
    field, times = known.field, known.known_times
    rows = in_order([(times[spot], spot) for spot in field.spots() if spot in times])
    return [(Ratio(time, field.scale), told_spot(field, spot), known.reasons_for(spot)[0]) for time, spot in rows]


def reasons(course, point):
    """A list of all reasons that a point of a spot has, in order."""
    spot = spot_at(course, point)
    known = known_of(course)
    if spot not in known.known_times:
        return []
    return known.reasons_for(spot)


def chain(course, point):
    """The points from a spot that burns because of a light or a trigger to this spot."""
    spot = spot_at(course, point)
    known = known_of(course)
    if spot not in known.known_times:
        raise InvalidPoint(point)
    points = []
    while spot is not None:
        points.append(told_spot(known.field, spot))
        spot = known.spot_before(spot)
    return points[::-1]


def is_reason(value):
    """Whether any value is a tuple with the form of a reason."""
    if not isinstance(value, tuple) or len(value) == 0 or not isinstance(value[0], str):
        return False
    kind = value[0]
    return kind in SIZES and len(value) == SIZES[kind] and all([is_integer(item) for item in value[1:]])


def is_entry(net, value):
    """Whether any value is a tuple with a time, a point as it is returned, and the form of a reason."""
    if not is_row(value, 3):
        return False
    time, point, reason = value
    return is_number(time) and net.is_point(point) and net.returned(point) == point and is_reason(reason)


def are_ascending(rows):
    """Whether the numbers with which rows begin never fall."""
    return all([one[0] <= other[0] for one, other in zip(rows, rows[1:])])


def numbers_in(entries):
    """The times and distances of entries."""
    return [entry[0] for entry in entries] + [entry[1][1] for entry in entries if not isinstance(entry[1], str)]


def check_account(fire, value, *, delays=None, valves=(), cuts=(), triggers=()):
    """Whether any value is an account that holds for the course with these rules."""
    check_rules(fire, delays, valves, cuts, triggers)
    if not isinstance(value, list) or not all([is_entry(fire.net, entry) for entry in value]):
        return False
    rules = Rules(fire.net, delays, valves, cuts, triggers)
    numbers = fire.numbers() + rules.numbers() + numbers_in(value)
    # Twice the common bottom: fire meets fire halfway between two times.
    field = Field(fire, rules, 2 * scale_of(fire.net, numbers))
    told = [(whole_point(point, field.scale), whole(time, field.scale), reason) for time, point, reason in value]
    return are_ascending(value) and holds(field, told)


def holds(field, told):
    """Whether tuples (spot, time, reason) say why each spot burns, and leave out none."""
    times = {spot: time for spot, time, _ in told}
    spots = field.spots()
    if len(times) != len(told) or not all([spot in spots for spot in times]):
        return False
    for spot in times:
        field.enter(spot, times[spot])
    known = Known(field, times)
    return all([reason in known.reasons_for(spot) for spot, _, reason in told]) and known.is_complete()
