"""How much of a net has burnt at a time, and how many fronts burn on."""

from fusenets.errors import InvalidNumber
from fusenets.ratios import Ratio, in_order, is_number, is_positive


def runs(fire):
    """The tuples (start, stop) of the times between which each front runs."""
    result = []
    for stretch in fire.stretches():
        result.extend(stretch.runs())
    return result


def burnt(fire, time):
    """The length of all that burns at this time or before."""
    if not is_number(time):
        raise InvalidNumber(time)
    result = Ratio(0)
    for start, stop in runs(fire):
        if time > stop:
            result = result + (stop - start)
        elif time > start:
            result = result + (time - start)
    return result


def fronts(fire, time):
    """The number of places where the burnt part grows just after this time."""
    if not is_number(time):
        raise InvalidNumber(time)
    return len([start for start, stop in runs(fire) if start <= time < stop])


def changes(fire):
    """The ascending list of tuples (time, change) where the number of fronts changes."""
    starts = [(start, 1) for start, _ in runs(fire)]
    stops = [(stop, -1) for _, stop in runs(fire)]
    rows = []
    for time, change in in_order(starts + stops):
        if rows and rows[-1][0] == time:
            change = change + rows.pop()[1]
        rows.append((time, change))
    return [row for row in rows if row[1] != 0]


def steps(fire):
    """Yields (time, burnt length, fronts) for each time at which the number of fronts changes."""
    done = Ratio(0)
    number = 0
    before = None
    for time, change in changes(fire):
        if before is not None:
            done = done + (time - before) * number
        number = number + change
        before = time
        yield time, done, number


def time_for(fire, length):
    """The least time with this burnt length, or None if it is never reached."""
    if not is_positive(length):
        raise InvalidNumber(length)
    before = None
    for time, done, number in steps(fire):
        if done >= length:
            start, there, many = before
            return start + (length - there).over(many)
        before = (time, done, number)
    return None
