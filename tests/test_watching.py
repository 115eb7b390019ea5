"""Observations, against all places of a net that is cut into small equal parts."""

import unittest
from copy import deepcopy
from fractions import Fraction
from random import Random

from cutting import Cut, distances_between, fraction, plain, random_lights, random_net, random_point
from fusenets.errors import InvalidObservations, InvalidPoint
from fusenets.fires import Fire
from fusenets.nets import Net
from fusenets.ratios import Ratio
from fusenets.watching import contradiction, explaining, light_time, node_to_watch, suspects
from odd import Strange, is_ratio, odd_numbers, odd_values, only_ratios, raised

CALLS = (contradiction, explaining, suspects, node_to_watch)


def three():
    """The net of the document."""
    return Net(["a", "b", "c"], [("a", "b", 4), ("b", "c", 2)])


def first_contradiction(nodes, fuses, seen):
    """The first two observed nodes that are too near, by a table of all distances."""
    table = distances_between(nodes, fuses, [])[2]
    for index, one in enumerate(nodes):
        for other in nodes[index + 1:]:
            if one in seen and other in seen and table[one, other] is not None:
                if abs(fraction(seen[one]) - fraction(seen[other])) > table[one, other]:
                    return one, other
    return None


def explained(cut, seen):
    """A dict from all spots at which a single light explains the times to its time."""
    found = {}
    for spot in cut.spots():
        times = cut.burn([(cut.point(spot), 0)])
        starts = {None if node not in times else fraction(time) - times[node] for node, time in seen.items()}
        if None not in starts and len(starts) == 1:
            found[spot] = starts.pop()
    return found


def parts_told(cut, spots):
    """The longest rows of spots on each fuse, as (fuse, start, end)."""
    rows = []
    for fuse, size in enumerate(cut.sizes):
        start = None
        for at in range(size + 2):
            inside = at <= size and cut.spot((fuse, at * cut.part)) in spots
            if inside and start is None:
                start = at
            if not inside and start is not None:
                rows.append((fuse, start * cut.part, (at - 1) * cut.part))
                start = None
    return rows


class Known(unittest.TestCase):
    def test_document(self):
        net, seen = three(), {"a": 3, "c": 5}
        self.assertIsNone(contradiction(net=net, observations=seen))
        self.assertEqual(explaining(net=net, observations=seen), [(0, 2, 2)])
        self.assertTrue(is_ratio(light_time(net=net, observations=seen, point=(0, 2)), 1))
        self.assertEqual(suspects(net=net, observations={"b": 4}), [("a", 0), ("b", 4), ("c", 2)])
        self.assertEqual(node_to_watch(net=net, observations={"b": 4}), ("a", 2))
        self.assertTrue(only_ratios([list(row[1:]) for row in explaining(net, seen)] + [time for _, time in suspects(net, {"b": 4})]))
        self.assertIs(type(node_to_watch(net, {"b": 4})[1]), int)

    def test_contradiction_order(self):
        net = Net(["d", "c", "b", "a"], [("a", "b", 1), ("b", "c", 1), ("c", "d", 1)])
        self.assertEqual(contradiction(net, {"a": 0, "b": 5, "c": 0, "d": 0}), ("d", "b"))
        self.assertEqual(contradiction(net, {"a": 9, "b": 0, "c": 1, "d": 2}), ("d", "a"))
        self.assertEqual(contradiction(net, {"b": 1, "a": Ratio(201, 100)}), ("b", "a"))
        self.assertIsNone(contradiction(net, {"b": 1, "a": 2}))

    def test_no_way(self):
        net = Net(["a", "b", "c"], [("a", "b", 1)])
        seen = {"a": 0, "c": 99}
        self.assertIsNone(contradiction(net, seen))
        self.assertEqual((explaining(net, seen), suspects(net, seen), node_to_watch(net, seen)), ([], [], None))
        for point in ("a", "c", (0, Ratio(1, 2))):
            self.assertIsNone(light_time(net, seen, point))
        self.assertEqual((explaining(net, {"c": 2}), suspects(net, {"c": 2})), ([], [("c", 2)]))

    def test_one_observation_is_explained_everywhere(self):
        net = Net(["a", "b", "c", "d"], [("a", "b", 4), ("a", "a", 3), ("c", "d", 1), ("b", "a", 1)])
        self.assertEqual(explaining(net, {"b": 1}), [(0, 0, 4), (1, 0, 3), (3, 0, 1)])
        self.assertEqual(suspects(net, {"b": 1}), [("a", 0), ("b", 1)])

    def test_parts_and_places(self):
        ring = Net(["a", "b"], [("a", "b", 2), ("b", "a", 4)])
        self.assertEqual(explaining(ring, {"a": 1, "b": 1}), [(0, 1, 1), (1, 2, 2)])
        self.assertEqual(explaining(ring, {"a": 3, "b": 1}), [(0, 2, 2), (1, 0, 1)])
        self.assertEqual(explaining(three(), {"b": 4, "c": 6}), [(0, 0, 4), (1, 0, 0)])
        self.assertEqual(explaining(three(), {"b": 4, "c": 7}), [])
        self.assertEqual(explaining(three(), {"b": 4, "c": 2}), [(1, 2, 2)])

    def test_net_without_fuses(self):
        net = Net(["a"], [])
        self.assertEqual((contradiction(net, {"a": 1}), explaining(net, {"a": 1}), suspects(net, {"a": 1})), (None, [], [("a", 1)]))
        self.assertEqual((light_time(net, {"a": Ratio(1, 3)}, "a"), node_to_watch(net, {"a": 1})), (Ratio(1, 3), None))

    def test_node_to_watch_with_never(self):
        net = Net(["a", "b", "c"], [("a", "b", 4)])
        self.assertEqual(node_to_watch(net, {"a": 0}), ("b", 1))
        self.assertEqual(node_to_watch(net, {"b": 0}), ("a", 1))
        star = Net(["m", "x", "y", "z"], [("m", "x", 1), ("m", "y", 1), ("m", "z", 1)])
        self.assertEqual(node_to_watch(star, {"m": 0}), ("x", 3))
        self.assertEqual(node_to_watch(Net(["q", "a", "b"], [("a", "b", 2)]), {"a": 5}), ("b", 1))

    def test_light_time_of_places(self):
        net = three()
        self.assertEqual(light_time(net, {"b": 1}, (0, Ratio(1, 7))), 1 - (4 - Ratio(1, 7)))
        self.assertEqual(light_time(net, {"b": 1, "c": 3}, (0, Ratio(1, 7))), 1 - (4 - Ratio(1, 7)))
        self.assertIsNone(light_time(net, {"b": 1, "c": 3}, (1, Ratio(1, 7))))
        loop = Net(["a"], [("a", "a", 4)])
        self.assertEqual([light_time(loop, {"a": 0}, (0, at)) for at in (0, 1, 3, 4)], [0, -1, -1, 0])


class Drawn(unittest.TestCase):
    def observed(self, random, nodes, fuses):
        """Observations of a fire, these with a change, or drawn ones."""
        chosen = random.sample(nodes, random.randint(1, len(nodes)))
        kind = random.choice(["light", "light", "fire", "changed", "drawn"])
        if kind == "drawn":
            return {node: random.randint(-2, 5) for node in chosen}
        lights = [(random_point(random, nodes, fuses), 0)] if kind != "fire" else random_lights(random, nodes, fuses)
        times = Fire(Net(nodes, fuses), lights).times()
        seen = {node: times[node] for node in chosen if times[node] is not None} or {nodes[0]: 0}
        if kind == "changed":
            node = random.choice(list(seen))
            seen[node] = seen[node] + random.choice([-1, 1, Ratio(1, 2), Ratio(-1, 2)])
        return seen

    def test_all_places(self):
        random = Random(1)
        found = {}
        for case in range(400):
            nodes, fuses = random_net(random, 6, 7, 3)
            net, seen = Net(nodes, fuses), self.observed(random, nodes, fuses)
            cut = Cut(nodes, fuses, Fraction(1, 4))
            told = explained(cut, seen)
            with self.subTest(case=case, nodes=nodes, fuses=fuses, seen=seen):
                self.assertEqual(contradiction(net, seen), first_contradiction(nodes, fuses, seen))
                self.assertEqual(plain(explaining(net, seen)), parts_told(cut, told))
                self.assertEqual(plain(suspects(net, seen)), [(node, told[node]) for node in nodes if node in told])
                for spot in random.sample(cut.spots(), min(10, len(cut.spots()))):
                    point = cut.point(spot)
                    if not isinstance(spot, str):
                        point = (spot[0], Ratio(point[1].numerator, point[1].denominator))
                    self.assertEqual(plain(light_time(net, seen, point)), told.get(spot))
                self.check_watch(net, seen)
                lights = list(seen.items())
                explains = all(Fire(net, lights)(node) == time for node, time in lights)
                self.assertEqual(explains, contradiction(net, seen) is None)
            found[len(explaining(net, seen)) > 1, any(start != end for _, start, end in explaining(net, seen))] = True
        self.assertEqual(len(found), 4)

    def check_watch(self, net, seen):
        """Groups the suspects by the fires that they light."""
        lights = suspects(net, seen)
        watched = node_to_watch(net, seen)
        if len(lights) < 2:
            self.assertIsNone(watched)
            return
        sizes = []
        for node in net.nodes:
            times = [plain(Fire(net, [light])(node)) for light in lights]
            sizes.append(max(times.count(time) for time in times))
        self.assertEqual(watched, (net.nodes[sizes.index(min(sizes))], min(sizes)))

    def test_order_of_the_dict_does_not_matter(self):
        random = Random(2)
        for _ in range(50):
            nodes, fuses = random_net(random)
            net, seen = Net(nodes, fuses), self.observed(random, nodes, fuses)
            turned = dict(reversed(list(seen.items())))
            for call in CALLS:
                self.assertEqual(call(net, seen), call(net, turned))

    def test_scaled(self):
        random = Random(3)
        for _ in range(50):
            nodes, fuses = random_net(random)
            net, seen = Net(nodes, fuses), self.observed(random, nodes, fuses)
            number = Ratio(random.randint(1, 10 ** 30), random.randint(1, 10 ** 30))
            other = {node: number * time for node, time in seen.items()}
            self.assertEqual(contradiction(net, seen), contradiction(net * number, other))
            self.assertEqual([(fuse, start * number, end * number) for fuse, start, end in explaining(net, seen)], explaining(net * number, other))
            self.assertEqual([(node, time * number) for node, time in suspects(net, seen)], suspects(net * number, other))
            self.assertEqual(node_to_watch(net, seen), node_to_watch(net * number, other))


class Wrong(unittest.TestCase):
    def test_no_observations(self):
        values = [value for value in odd_values() if not (isinstance(value, dict) and "a" in value)]
        values += [{"d": 1}, {"a": 1, "d": 1}, {0: 1}, {None: 1}, {("a",): 1}, [("a", 1)], {"a": Strange()}]
        values += [{"a": value} for value in odd_numbers()]
        for value in values:
            for call in CALLS:
                with self.subTest(value=repr(value), call=call.__name__), self.assertRaises(InvalidObservations) as caught:
                    call(three(), value)
                self.assertIs(caught.exception.value, value)
            with self.assertRaises(InvalidObservations) as caught:
                light_time(three(), value, "nowhere")
            self.assertIs(caught.exception.value, value)

    def test_points(self):
        for value in odd_values() + ["d", (2, 0), (0, 5)]:
            for seen in ({"a": 0}, {"a": 0, "b": 99}):
                with self.assertRaises(InvalidPoint) as caught:
                    light_time(three(), seen, value)
                self.assertIs(caught.exception.value, value)
        self.assertEqual(raised(light_time, three(), {}, "nowhere"), ("InvalidObservations", {"value": {}}))

    def test_arguments_stay(self):
        net, seen = three(), {"a": 3, "c": Ratio(5)}
        before = deepcopy(list(seen.items()))
        for call in CALLS:
            call(net, seen)
        light_time(net, seen, "a")
        self.assertEqual((list(seen.items()), net), (before, three()))


if __name__ == "__main__":
    unittest.main()
