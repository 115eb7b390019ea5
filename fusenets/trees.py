"""Trees: the fewest lights that burn everything within a time, and certificates for them.

Inside, lengths and times are whole numbers: all are multiplied by a common bottom.
"""

from fusenets.climbing import Lighting, climbs_of
from fusenets.errors import InvalidNumber, LimitExceeded, NotATree
from fusenets.lines import greatest
from fusenets.nets import scale_of, whole_fuses, whole_point
from fusenets.ratios import Ratio, is_integer, is_positive, whole
from fusenets.spreading import neighbours, node_times, time_at
from fusenets.stretches import stretches_of

MOST_POINTS = 200


def check_tree(net):
    """Raises NotATree unless the net is one."""
    if not net.is_tree():
        raise NotATree()


def check_time(net, time):
    """Raises NotATree, then InvalidNumber unless any value is a time above 0."""
    check_tree(net)
    if not is_positive(time):
        raise InvalidNumber(time)


def lighting_of(net, time, scale):
    """The fewest lights for a time, with all numbers multiplied by the scale."""
    root = net.nodes[0]
    return Lighting(climbs_of(whole_fuses(net, scale), root), root, whole(time, scale))


def fewest(net, time):
    """The least number of points that cover the tree within the time."""
    check_time(net, time)
    return lighting_of(net, time, scale_of(net, [time])).light_number()


def listed_number(net, time):
    """The least number of points; raises LimitExceeded if they are too many for a list."""
    number = fewest(net, time)
    if number > MOST_POINTS:
        raise LimitExceeded(MOST_POINTS)
    return number


def point_from(net, point, scale):
    """A point of the tree with its distance multiplied by the scale, as it is returned."""
    if isinstance(point, str):
        return point
    return net.point((point[0], Ratio(point[1], scale)))


def cover(net, time):
    """A list of the fewest points that cover the tree within the time."""
    listed_number(net, time)
    scale = scale_of(net, [time])
    return [point_from(net, point, scale) for point in lighting_of(net, time, scale).light_points()]


def apart(net, time):
    """A list of as many points, of which any two have a distance of more than twice the time."""
    number = listed_number(net, time)
    longer = longer_time(net, time, number)
    scale = scale_of(net, [longer])
    return [point_from(net, point, scale) for point in lighting_of(net, longer, scale).witnesses()]


def longer_time(net, time, number):
    """A longer time for which as many points are needed.

    Witnesses may be exactly twice their time apart, so they are taken for a longer one.
    """
    share = 2
    longer = time * Ratio(share + 1, share)
    while fewest(net, longer) < number:
        share = share * share
        longer = time * Ratio(share + 1, share)
    return longer


def are_points(net, value):
    """Whether any value is a list of points."""
    return isinstance(value, list) and all([net.is_point(point) for point in value])


def distances_in(points):
    """The distances of all places among some points."""
    return [point[1] for point in points if not isinstance(point, str)]


def is_cover(net, time, value):
    """Whether any value is a list of points that cover the tree within the time."""
    check_time(net, time)
    if not are_points(net, value) or not value:
        return False
    points = [net.point(point) for point in value]
    scale = 2 * scale_of(net, [time] + distances_in(points))
    fuses = whole_fuses(net, scale)
    sources = [(whole_point(point, scale), 0) for point in points]
    times = node_times(fuses, sources)
    stretches = stretches_of(fuses, sources, times)
    ends = [times[node] for node in net.nodes] + [stretch.last_time() for stretch in stretches]
    return greatest(ends) <= whole(time, scale)


def is_apart(net, time, value):
    """Whether any value is a list of points, any two of them more than twice the time apart."""
    check_time(net, time)
    if not are_points(net, value):
        return False
    points = [net.point(point) for point in value]
    scale = scale_of(net, [time] + distances_in(points))
    fuses = whole_fuses(net, scale)
    spots = [whole_point(point, scale) for point in points]
    for index, spot in enumerate(spots):
        if not is_far(fuses, spot, spots[:index], 2 * whole(time, scale)):
            return False
    return True


def is_far(fuses, point, others, distance):
    """Whether a point is more than a distance away from all others."""
    origin = [(point, 0)]
    times = node_times(fuses, origin)
    return all([time_at(fuses, origin, times, other) > distance for other in others])


def least_time(net, number):
    """The least time within which so many points cover the tree."""
    check_tree(net)
    if not is_integer(number) or not 1 <= number <= MOST_POINTS:
        raise InvalidNumber(number)
    scale = scale_of(net, [])
    fuses = whole_fuses(net, scale)
    spans = leaf_distances(net.nodes, fuses)
    if not spans:
        return Ratio(0)
    root = net.nodes[0]
    climbs = climbs_of(fuses, root)
    size, pieces = max([int(span) for span in spans]), 1
    for span in spans:
        least = span * pieces // size + 1
        most = most_pieces(climbs, root, number, span, least)
        if most >= least:
            size, pieces = span, most
    return Ratio(size, 2 * pieces * scale)


def leaf_distances(nodes, fuses):
    """The distances of any two leaves of a tree."""
    leaves = [node for node in nodes if len(neighbours(fuses, node)) == 1]
    distances = []
    for index, leaf in enumerate(leaves):
        times = node_times(fuses, [(leaf, 0)])
        distances.extend([times[other] for other in leaves[:index]])
    return distances


def can_cover(climbs, root, number, span, pieces):
    """Whether so many lights cover a tree if each reaches half a piece of the span."""
    return Lighting(climbs, root, span, 2 * pieces).light_number() <= number


def most_pieces(climbs, root, number, span, least):
    """The most pieces of a span with which so many lights cover a tree; less than least if none.

    More pieces than lights are never enough to cover the span itself.
    """
    if least > number or not can_cover(climbs, root, number, span, least):
        return least - 1
    low, high = least, number + 1
    while high - low > 1:
        middle = (low + high) // 2
        if can_cover(climbs, root, number, span, middle):
            low = middle
        else:
            high = middle
    return low
