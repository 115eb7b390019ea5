"""Nets that are put together, and very long chains of equal nets."""

from math import lcm

from fusenets.burning import runs
from fusenets.errors import InvalidJoin, InvalidLights, InvalidNumber, LimitExceeded
from fusenets.fires import Fire
from fusenets.nets import MOST_FUSES, MOST_NODES, Net, is_index
from fusenets.ratios import Ratio, as_ratio, common_bottom, is_integer, is_number, whole
from fusenets.spreading import lesser


def is_pair(one, other, value):
    """Whether any value is a tuple of a node of one net and a node of another."""
    return isinstance(value, tuple) and len(value) == 2 and value[0] in one and value[1] in other


def are_pairs(one, other, value):
    """Whether any value is a list of pairs of nodes, each in at most one."""
    if not isinstance(value, list) or not all([is_pair(one, other, pair) for pair in value]):
        return False
    lefts = len(set([left for left, _ in value]))
    rights = len(set([right for _, right in value]))
    return lefts == len(value) and rights == len(value)


def new_names(one, other, pairs):
    """A dict from the nodes of other to their names in the joined net."""
    names = {right: left for left, right in pairs}
    for node in other.nodes:
        if node not in names:
            if node in one:
                raise InvalidJoin(node)
            names[node] = node
    return names


def joined(one, other, pairs):
    """The net of two nets with nodes put together."""
    if not are_pairs(one, other, pairs):
        raise InvalidJoin(pairs)
    names = new_names(one, other, pairs)
    nodes = one.nodes + [node for node in other.nodes if names[node] not in one]
    if len(nodes) > MOST_NODES:
        raise LimitExceeded(MOST_NODES)
    if len(one) + len(other) > MOST_FUSES:
        raise LimitExceeded(MOST_FUSES)
    added = [(names[first], names[second], length) for first, second, length in other.fuses]
    return Net(nodes, one.fuses + added)


def is_link_number(value):
    """Whether any value is a number of links."""
    return is_integer(value) and 1 <= value <= 10 ** 30


def check_chain(net, left, right, number, first, last):
    """Raises the error of the first argument of a chain that is not as described."""
    if left not in net:
        raise InvalidJoin(left)
    if right not in net or right == left:
        raise InvalidJoin(right)
    if not is_link_number(number):
        raise InvalidNumber(number)
    for time in [first, last]:
        if time is not None and not is_number(time):
            raise InvalidNumber(time)
    if first is None and last is None:
        raise InvalidLights(None)


def falling(start, step, number):
    """The sum of start, start - step, .. over so many whole terms, where those below 0 count as 0."""
    if start <= 0:
        return 0
    count = min(int(number), -(-start // step))
    return start * count - step * (count * (count - 1) // 2)


def fallen(fire, time, step, number):
    """The burnt length, at a time, of so many equal nets that are lit like a fire, each a step later."""
    scale = lcm(fire.unit(), common_bottom([time, step]))
    factor = scale // fire.unit()
    now, later = whole(time, scale), whole(step, scale)
    result = 0
    for start, stop in runs(fire):
        result = result + falling(now - start * factor, later, number) - falling(now - stop * factor, later, number)
    return Ratio(result, scale)


class Chain:
    """A chain of equal nets, lit at its first joint, at its last joint or at both.

    Fire leaves and enters a link at its joints only, so distances within a link are those
    of its net alone. The links before the switch burn as from their left joints alone, the
    links behind it as from their right joints alone.
    """

    def __init__(self, net, left, right, number, *, first=None, last=None):
        check_chain(net, left, right, number, first, last)
        self._link = net
        self._joints = (left, right)
        self._number = number
        self._first = first
        self._last = last
        self._step = net.distance(left, right)

    def joint_time(self, index):
        """The time of a joint, or None."""
        if not is_index(index, self._number + 1):
            raise InvalidNumber(index)
        return lesser(self._time_after(self._first, index), self._time_after(self._last, self._number - index))

    def _time_after(self, time, links):
        """The time at which fire that is lit at a time has come through so many links, or None."""
        if time is None or links > 0 and self._step is None:
            return None
        if links == 0:
            return as_ratio(time)
        return self._step * links + time

    def _link_fire(self, link):
        """The fire of a link, lit at its joints when they burn, or None if they do not."""
        times = [self.joint_time(link), self.joint_time(link + 1)]
        lights = [(node, time) for node, time in zip(self._joints, times) if time is not None]
        if not lights:
            return None
        return Fire(self._link, lights)

    def time_in(self, link, point):
        """The time of a point of a link, or None."""
        if not is_index(link, self._number):
            raise InvalidNumber(link)
        place = self._link.point(point)
        fire = self._link_fire(link)
        if fire is None:
            return None
        return fire(place)

    def _switch(self):
        """The index of the last joint that burns from the first one, -1 if none does."""
        if self._last is None:
            return self._number
        if self._first is None:
            return -1
        ahead = self._step * self._number + self._last - self._first
        joint = ahead.over(self._step * 2).floor()
        return max(-1, min(int(joint), int(self._number)))

    def end(self):
        """The greatest time of all points of the chain, or None."""
        if self._step is None and self._number > 1:
            return None
        result = None
        for link in self._late_links():
            time = self._link_fire(link).end()
            if time is None:
                return None
            if result is None or time > result:
                result = time
        return result

    def _late_links(self):
        """The links, a few, one of which burns out last if all are connected."""
        if self._number == 1:
            return [0]
        switch = self._switch()
        return [link for link in range(switch - 1, switch + 2) if 0 <= link < self._number]

    def burnt(self, time):
        """The burnt length of the chain at a time."""
        if not is_number(time):
            raise InvalidNumber(time)
        if self._step is None:
            return self._burnt_apart(time)
        left, right = self._joints
        switch = self._switch()
        result = Ratio(0)
        if switch > 0:
            fire = Fire(self._link, [(left, self._first)])
            result = result + fallen(fire, time, self._step, switch)
        if 0 <= switch < self._number:
            result = result + fallen(self._link_fire(switch), time, 1, 1)
        if switch < self._number - 1:
            fire = Fire(self._link, [(right, self._last)])
            result = result + fallen(fire, time, self._step, self._number - 1 - switch)
        return result

    def _burnt_apart(self, time):
        """The burnt length at a time if no way joins the joints."""
        result = Ratio(0)
        links = [0]
        if self._number > 1:
            links.append(self._number - 1)
        for link in links:
            fire = self._link_fire(link)
            if fire is not None:
                result = result + fallen(fire, time, 1, 1)
        return result
