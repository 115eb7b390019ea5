"""Guards: the cheapest fuses without which a node never burns, and flows that show that none are cheaper.

Inside, prices are whole. A flow runs from the start "" over the lights to the node; a light
inside a fuse is a key of its own, the index of the fuse.
"""

from fusenets.errors import InvalidPoint, InvalidPrices
from fusenets.flows import Flow
from fusenets.nets import is_index
from fusenets.ratios import Ratio, common_bottom, is_positive, total, whole
from fusenets.rules import is_row, is_wait
from fusenets.spreading import first_times, spread

START = ""


def are_prices(net, value):
    """Whether any value is a list with a number of at least 0 for each fuse, or None."""
    if value is None:
        return True
    return isinstance(value, list) and len(value) == len(net) and all([is_wait(price) for price in value])


def checked_prices(fire, node, prices):
    """The list of the prices; raises the error of the first argument that is not as described."""
    net = fire.net
    if node not in net:
        raise InvalidPoint(node)
    if not are_prices(net, prices):
        raise InvalidPrices(prices)
    if prices is None:
        return [1 for _ in range(len(net))]
    return prices


def lights_at_nodes(fire):
    """A dict from the nodes with lights to the first of their lights."""
    found = {}
    for index, (point, _) in enumerate(fire.lights):
        if isinstance(point, str):
            found.setdefault(point, index)
    return found


def lights_inside(fire):
    """A dict from the fuses with lights strictly inside to the first of their lights."""
    found = {}
    for index, (point, _) in enumerate(fire.lights):
        if not isinstance(point, str):
            found.setdefault(point[0], index)
    return found


class GreatestFlow:
    """The greatest flow from the lights to a node without a light.

    The arcs are labelled with tuples (light, fuse), with None where they have none. No flow
    runs through a lit fuse from end to end: it might as well begin inside the fuse.
    """

    def __init__(self, fire, node, prices):
        self.goal = node
        self.ways = fire.net.fuses
        self.scale = common_bottom(prices)
        amounts = [whole(price, self.scale) for price in prices]
        self.lit_inside = lights_inside(fire)
        self.carrying = Flow()
        endless = sum(amounts) + 1
        lit_nodes = lights_at_nodes(fire)
        for spot in lit_nodes:
            self.carrying.connect(START, spot, endless, 0, (lit_nodes[spot], None))
        for fuse, (one, other, _) in enumerate(self.ways):
            if fuse in self.lit_inside:
                self.carrying.connect(START, fuse, amounts[fuse], 0, (self.lit_inside[fuse], fuse))
                self.carrying.connect(fuse, one, endless, 0, (None, None))
                self.carrying.connect(fuse, other, endless, 0, (None, None))
            else:
                self.carrying.connect(one, other, amounts[fuse], amounts[fuse], (None, fuse))
        self.before = list(self.carrying.room)
        self.carrying.fill(START, node)

    def cheapest(self):
        """The fuses between what fire could still be pushed to and the rest."""
        near = self.carrying.reached(START, self.carrying.room)
        found = []
        for fuse, (one, other, _) in enumerate(self.ways):
            if fuse in self.lit_inside:
                is_between = one not in near or other not in near
            else:
                is_between = (one in near) != (other in near)
            if is_between:
                found.append(fuse)
        return found

    def trails(self):
        """The tuples (amount, (light, fuses)) of the flow."""
        pushed = [before - room for before, room in zip(self.before, self.carrying.room)]
        found = []
        for amount, labels in self.carrying.paths(START, self.goal, pushed):
            fuses = [fuse for _, fuse in labels if fuse is not None]
            found.append((Ratio(amount, self.scale), (labels[0][0], fuses)))
        return found


def guard(fire, node, prices=None):
    """A guard with the least price, or None if a light is at the node."""
    amounts = checked_prices(fire, node, prices)
    if node in lights_at_nodes(fire):
        return None
    return GreatestFlow(fire, node, amounts).cheapest()


def flow(fire, node, prices=None):
    """A flow whose amount is the least price of a guard, or None if a light is at the node."""
    amounts = checked_prices(fire, node, prices)
    if node in lights_at_nodes(fire):
        return None
    return GreatestFlow(fire, node, amounts).trails()


def are_fuses_ascending(net, value):
    """Whether any value is an ascending list of different indexes of fuses."""
    if not isinstance(value, list) or not all([is_index(fuse, len(net)) for fuse in value]):
        return False
    return all([one < other for one, other in zip(value, value[1:])])


def is_guard(fire, node, value):
    """Whether any value is a guard of a node."""
    if not are_fuses_ascending(fire.net, value):
        return False
    fuses = fire.net.fuses
    rest = [fuse for index, fuse in enumerate(fuses) if index not in value]
    lights = [(point, time) for point, time in fire.lights if isinstance(point, str) or point[0] not in value]
    return node not in spread(rest, first_times(fuses, lights))


def guard_price(fire, node, value, prices=None):
    """The price of a guard, or None if any value is none."""
    amounts = checked_prices(fire, node, prices)
    if not is_guard(fire, node, value):
        return None
    return total([amounts[fuse] for fuse in value])


def is_trail(fire, node, value):
    """Whether any value is a trail to a node, with at least one fuse."""
    if not is_row(value, 2) or not is_index(value[0], len(fire.lights)):
        return False
    light, fuses = value
    net = fire.net
    if not isinstance(fuses, list) or len(fuses) == 0 or not all([is_index(fuse, len(net)) for fuse in fuses]):
        return False
    return len(set(fuses)) == len(fuses) and node in trail_ends(net.fuses, fire.lights[light][0], fuses)


def trail_ends(ways, point, fuses):
    """The nodes to which fire can run from a point through some fuses in order."""
    if isinstance(point, str):
        ends = [point]
        rest = fuses
    elif point[0] == fuses[0]:
        ends = list(ways[fuses[0]][:2])
        rest = fuses[1:]
    else:
        return []
    for fuse in rest:
        one, other, _ = ways[fuse]
        ends = [there for here, there in [(one, other), (other, one)] if here in ends]
    return ends


def is_stream(fire, node, value):
    """Whether any value is a tuple of an amount above 0 and a trail with at least one fuse."""
    return is_row(value, 2) and is_positive(value[0]) and is_trail(fire, node, value[1])


def flow_amount(fire, node, value, prices=None):
    """The amount of a flow of trails with fuses, or None if any value is none."""
    amounts = checked_prices(fire, node, prices)
    if not isinstance(value, list) or not all([is_stream(fire, node, stream) for stream in value]):
        return None
    for fuse, price in enumerate(amounts):
        if total([amount for amount, (_, fuses) in value if fuse in fuses]) > price:
            return None
    return total([amount for amount, _ in value])
