"""How much of a net has burnt at a time, and how many fronts burn on.

Inside, all times are whole numbers: they are multiplied by the unit of the fire.
"""

from fusenets.errors import InvalidNumber
from fusenets.ratios import Ratio, is_number, is_positive, parts


def runs(fire):
    """The tuples (start, stop) of the times between which each front runs, in the fire's unit."""
    result = []
    for stretch in fire.stretches():
        result.extend(stretch.runs())
    return result


def burnt(fire, time):
    """The length of all that burns at this time or before."""
    if not is_number(time):
        raise InvalidNumber(time)
    top, bottom = parts(time)
    now = top * fire.unit()
    result = 0
    for start, stop in runs(fire):
        if now > stop * bottom:
            result = result + (stop - start) * bottom
        elif now > start * bottom:
            result = result + now - start * bottom
    return Ratio(result, bottom * fire.unit())


def fronts(fire, time):
    """The number of places where the burnt part grows just after this time."""
    if not is_number(time):
        raise InvalidNumber(time)
    top, bottom = parts(time)
    now = top * fire.unit()
    return len([start for start, stop in runs(fire) if start * bottom <= now < stop * bottom])


def changes(fire):
    """The ascending list of tuples (time, change) where the number of fronts changes."""
    found = {}
    for start, stop in runs(fire):
        found[start] = found.get(start, 0) + 1
        found[stop] = found.get(stop, 0) - 1
    return [(time, found[time]) for time in sorted([int(time) for time in found]) if found[time] != 0]


def whole_steps(fire):
    """The list of (time, burnt length, fronts) for each time at which the number of fronts changes."""
    rows = []
    done = number = before = 0
    for time, change in changes(fire):
        done = done + (time - before) * number
        number = number + change
        before = time
        rows.append((time, done, number))
    return rows


def steps(fire):
    """Yields (time, burnt length, fronts) for each time at which the number of fronts changes."""
    unit = fire.unit()
    for time, done, number in whole_steps(fire):
        yield Ratio(time, unit), Ratio(done, unit), number


def time_for(fire, length):
    """The least time with this burnt length, or None if it is never reached."""
    if not is_positive(length):
        raise InvalidNumber(length)
    top, bottom = parts(length)
    goal = top * fire.unit()
    rows = whole_steps(fire)
    for (start, there, many), (_, done, _) in zip(rows, rows[1:]):
        if done * bottom >= goal:
            return Ratio(start * bottom * many + goal - there * bottom, bottom * many * fire.unit())
    return None
