"""Ways and labels: the returned ones, the same with a part changed, and any values."""

import unittest
from fractions import Fraction
from random import Random

from cutting import fraction, plain, random_lights, random_net
from fusenets.certificates import check_labels, labels_for, way_sum, way_to
from fusenets.errors import InvalidPoint
from fusenets.fires import Fire
from fusenets.nets import Net
from fusenets.ratios import Ratio
from odd import Strange, is_ratio, odd_numbers, odd_values, raised


def plain_sum(fuses, lights, point, way):
    """The sum of a way by the words of the document, from canonical points."""
    points = [lights[way[0]][0], *way[1], point]
    result = fraction(lights[way[0]][1])
    for one, other in zip(points, points[1:]):
        lengths = [Fraction(0)] if one == other else []
        for fuse, (first, second, length) in enumerate(fuses):
            lengths += [abs(start - end) for start in spots(fuse, first, second, length, one)
                        for end in spots(fuse, first, second, length, other) if not (one == other)]
        if not lengths:
            return None
        result += min(lengths)
    return result


def spots(fuse, first, second, length, point):
    """The distances on a fuse at which a point is."""
    if isinstance(point, str):
        return [Fraction(0)] * (point == first) + [fraction(length)] * (point == second)
    return [fraction(point[1])] * (point[0] == fuse)


def document_fire():
    """The fire of the document."""
    return Fire(Net(["a", "b", "c"], [("a", "b", 4), ("b", "c", 2)]), [("a", 0), ("c", 1)])


class Ways(unittest.TestCase):
    def test_known_sums(self):
        fire = document_fire()
        rows = [("b", (0, []), 4), ("b", (1, []), 3), ("b", (0, ["b"]), 4), ("b", (0, ["a", "a", "b", "b"]), 4), ("b", (1, ["c"]), 3),
                ("b", (0, ["b", "c"]), 8), ("a", (0, []), 0), ("a", (0, ["b"]), 8), ((0, 1), (0, []), 1), ((0, 1), (1, ["b"]), 6),
                ((0, 0), (0, []), 0), ((0, 4), (1, []), 3), ("c", (0, ["b"]), 6), ("c", (0, []), None), ((1, 1), (0, []), None),
                ((0, 1), (1, []), None), ("b", (0, ["c"]), None), ("b", (2, []), None), ("b", (-1, []), None)]
        for point, way, wanted in rows:
            told = way_sum(fire, point, way)
            self.assertTrue(told is None if wanted is None else is_ratio(told, wanted), (point, way, told))

    def test_between_places(self):
        net = Net(["a", "b"], [("a", "b", 9), ("b", "a", 2), ("b", "b", 6)])
        fire = Fire(net, [((0, 8), 1), ((2, 1), 0)])
        rows = [((0, 8), (0, []), 1), ((0, 1), (0, []), 8), ((0, 1), (0, ["b", "a"]), 5), ((1, 1), (0, []), None), ((1, 1), (0, ["b"]), 3),
                ((2, 5), (1, []), 4), ((2, 5), (1, ["b"]), 2), ("b", (1, []), 1), ("a", (0, []), 9), ("a", (0, ["b"]), 4)]
        for point, way, wanted in rows:
            told = way_sum(fire, point, way)
            self.assertTrue(told is None if wanted is None else is_ratio(told, wanted), (point, way, told))

    def test_any_values(self):
        fire = document_fire()
        wrong = odd_values() + [("a", []), (0, ()), (0, "b"), (0, None), [0, []], (0, [], 1), (0,), (True, []), (False, []), (0, ["d"]),
                                (0, [("a", 0)]), (0, [(0, 0)]), (0, [["a"]]), (0, [None]), (0, [Strange()]), (Ratio(0), []),
                                (0, {}), (0, {"b": 1}), (None, []), (10 ** 40, []), (-10 ** 40, []), (-2, []), (0.0, [])]
        for value in wrong:
            self.assertIsNone(way_sum(fire, "b", value))

    def test_no_points(self):
        fire = document_fire()
        for value in odd_values() + [(0, 5), "d"]:
            for call in (lambda point: way_to(fire, point), lambda point: way_sum(fire, point, (0, [])), lambda point: way_sum(fire, point, None)):
                with self.assertRaises(InvalidPoint) as caught:
                    call(value)
                self.assertIs(caught.exception.value, value)

    def test_points_that_never_burn(self):
        fire = Fire(Net(["a", "b", "c"], [("b", "c", 2)]), [("a", 0)])
        for point in ("b", "c", (0, 1), (0, 0)):
            self.assertIsNone(way_to(fire, point))
            self.assertIsNone(way_sum(fire, point, (0, [])))
        self.assertEqual(raised(way_to, fire, "x"), ("InvalidPoint", {"value": "x"}))

    def test_names(self):
        fire = document_fire()
        self.assertEqual(way_to(fire=fire, point="b"), (1, []))
        self.assertEqual(way_sum(fire=fire, point="b", way=(1, [])), 3)

    def test_drawn(self):
        random = Random(1)
        for _ in range(120):
            nodes, fuses = random_net(random)
            lights = random_lights(random, nodes, fuses)
            net = Net(nodes, fuses)
            fire = Fire(net, lights)
            places = [(fuse, at) for fuse in range(len(fuses)) for at in (0, Ratio(1, 2), fuses[fuse][2])]
            for point in nodes + places:
                way = way_to(fire, point)
                if fire(point) is None:
                    self.assertIsNone(way)
                    continue
                self.assertEqual((type(way), type(way[0]), type(way[1])), (tuple, int, list))
                self.assertTrue(all(isinstance(node, str) for node in way[1]))
                self.assertEqual(way_sum(fire, point, way), fire(point))
                self.assertIsInstance(way_sum(fire, point, way), Ratio)
                self.assertEqual(plain_sum(fuses, fire.lights, net.point(point), way), plain(fire(point)))
                self.check_changed(random, fire, fuses, point, way)

    def check_changed(self, random, fire, fuses, point, way):
        """The way with other lights and nodes in it: its sum is never less than the time."""
        nodes = fire.net.nodes
        for _ in range(6):
            light, steps = way[0], list(way[1])
            kind = random.randrange(4)
            if kind == 0:
                light = random.randrange(len(fire.lights))
            elif kind == 1 or not steps:
                steps.insert(random.randint(0, len(steps)), random.choice(nodes))
            elif kind == 2:
                steps.pop(random.randrange(len(steps)))
            else:
                steps[random.randrange(len(steps))] = random.choice(nodes)
            before = list(steps)
            told = way_sum(fire, point, (light, steps))
            self.assertEqual(steps, before)
            self.assertEqual(plain(told), plain_sum(fuses, fire.lights, fire.net.point(point), (light, steps)))
            self.assertTrue(told is None or told >= fire(point))


class Labels(unittest.TestCase):
    def test_document(self):
        fire = document_fire()
        labels = labels_for(fire)
        self.assertEqual(labels, {"a": 0, "b": 3, "c": 1})
        self.assertEqual(list(labels), ["a", "b", "c"])
        self.assertTrue(all(isinstance(label, Ratio) for label in labels.values()))
        for changed, holds in [({"a": Ratio(1, 9)}, False), ({"a": -1}, True), ({"a": Ratio(-10, 9)}, False), ({"b": 2}, True),
                               ({"b": Ratio(10, 3)}, False), ({"b": -1}, True), ({"b": -2}, False), ({"c": Ratio(11, 9)}, False)]:
            self.assertIs(check_labels(fire, {**labels, **changed}), holds, changed)
        self.assertIs(check_labels(fire=fire, value=labels_for(fire=fire)), True)

    def test_light_inside(self):
        fire = Fire(Net(["a", "b"], [("a", "b", 6), ("b", "b", 4)]), [((0, 1), 5), ((1, 1), 8)])
        self.assertEqual(labels_for(fire), {"a": 6, "b": 9})
        for labels, holds in [({"a": 6, "b": 9}, True), ({"a": 7, "b": 9}, False), ({"a": 6, "b": 10}, False), ({"a": 6, "b": 0}, True),
                              ({"a": 6, "b": -1}, False), ({"a": 5, "b": Ratio(19, 2)}, False), ({"a": -100, "b": -100}, True)]:
            self.assertIs(check_labels(fire, labels), holds, labels)

    def test_any_values(self):
        fire = document_fire()
        good = {"a": 0, "b": 3, "c": 1}
        wrong = odd_values() + [{}, {"a": 0}, {"a": 0, "b": 3}, {**good, "d": 9}, {**good, 1: 1}, {**good, None: 0}, list(good.items()),
                                [0, 3, 1], {"a": 0, "b": 3, "d": 1}, {"a": 0, "b": 3, ("c",): 1}, {0: 0, 1: 3, 2: 1}]
        wrong += [{**good, node: value} for node in "abc" for value in odd_numbers()]
        for value in wrong:
            self.assertIs(check_labels(fire, value), False)
        self.assertIs(check_labels(fire, {"c": 1, "b": 3, "a": 0}), True)

    def test_parts(self):
        fire = Fire(Net(["a", "b"], [("b", "b", 2)]), [("a", 1)])
        self.assertIsNone(labels_for(fire))
        for labels, holds in [({"a": 1, "b": 10 ** 40}, True), ({"a": 1, "b": -5}, True), ({"a": Ratio(3, 2), "b": 0}, False), ({"a": 1}, False)]:
            self.assertIs(check_labels(fire, labels), holds)

    def test_drawn(self):
        random = Random(2)
        refused = 0
        for _ in range(120):
            nodes, fuses = random_net(random)
            fire = Fire(Net(nodes, fuses), random_lights(random, nodes, fuses))
            labels = labels_for(fire)
            if None in fire.times().values():
                self.assertIsNone(labels)
                continue
            self.assertEqual(labels, fire.times())
            self.assertIs(check_labels(fire, labels), True)
            for node in nodes:
                self.assertIs(check_labels(fire, {**labels, node: labels[node] + Ratio(1, 10 ** 9)}), False)
            lower = {node: labels[node] - random.choice([0, 0, 1, Ratio(1, 2)]) for node in nodes}
            before = dict(lower)
            holds = all(abs(lower[one] - lower[other]) <= length for one, other, length in fuses)
            self.assertIs(check_labels(fire, lower), holds)
            self.assertEqual(lower, before)
            refused += not holds
        self.assertGreater(refused, 5)


if __name__ == "__main__":
    unittest.main()
