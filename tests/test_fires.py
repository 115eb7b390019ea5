"""Fires: times, sources, ends and meetings, against fire that goes step by step in a cut net."""

import unittest
from copy import deepcopy
from fractions import Fraction
from random import Random

from cutting import Cut, plain, random_lights, random_net, random_point
from fusenets.errors import InvalidLights, InvalidPoint
from fusenets.fires import Fire
from fusenets.nets import Net
from fusenets.ratios import Ratio
from odd import Strange, is_ratio, odd_numbers, odd_values, only_ratios, raised

HALF = Fraction(1, 2)


def three():
    """The net of the document."""
    return Net(["a", "b", "c"], [("a", "b", 4), ("b", "c", 2)])


def row(length=4):
    """A single fuse."""
    return Net(["a", "b"], [("a", "b", length)])


def point_at(cut, spot):
    """The point at a spot, a place with a Ratio."""
    if isinstance(spot, str):
        return spot
    distance = cut.point(spot)[1]
    return spot[0], Ratio(distance.numerator, distance.denominator)


class Making(unittest.TestCase):
    def test_properties(self):
        net = three()
        fire = Fire(net, [((0, 4), 1), ("a", Ratio(-1, 2)), ((1, 1), 0)])
        self.assertEqual(fire.net, net)
        self.assertEqual(fire.lights, [("b", 1), ("a", Ratio(-1, 2)), ((1, 1), 0)])
        self.assertTrue(only_ratios([light[1] for light in fire.lights] + [fire.lights[2][0][1]]))
        self.assertTrue(all(isinstance(light, tuple) for light in fire.lights))
        self.assertEqual(Fire(net=net, lights=[("a", 0)]).lights, [("a", 0)])

    def test_one_and_twenty_lights(self):
        self.assertEqual(Fire(row(), [("a", 0)]).end(), 4)
        self.assertEqual(len(Fire(row(), [("a", 0)] * 20).lights), 20)
        for lights in ([], [("a", 0)] * 21):
            self.assertEqual(raised(Fire, row(), lights), ("InvalidLights", {"index": None}))

    def test_wrong_lists(self):
        for value in [None, True, 1, "a", (("a", 0),), {}, {0: ("a", 0)}, set(), ("a", 0), Strange(), range(2), [None] * 21]:
            self.assertEqual(raised(Fire, row(), value), ("InvalidLights", {"index": None}))

    def test_wrong_items(self):
        good = ("a", 0)
        items = odd_values() + [["a", 0], ("a",), ("a", 0, 0), ("c", 0), ("A", 0), ((0, 5), 0), ((0, -1), 0), ((1, 0), 0), (0, 0),
                                ((0, 1), None), ([0, 1], 0), (Strange(), 0)]
        items += [("a", value) for value in odd_numbers()] + [(value, 0) for value in odd_values()]
        for item in items:
            for lights, index in [([item], 0), ([good, item], 1), ([good, good, item, item], 2), ([good] * 19 + [item], 19)]:
                with self.assertRaises(InvalidLights) as caught:
                    Fire(row(), lights)
                self.assertIs(type(caught.exception.index), int)
                self.assertEqual(caught.exception.index, index)

    def test_list_is_not_kept_or_changed(self):
        lights = [((0, 1), 0), ("b", 1)]
        before = deepcopy(lights)
        fire = Fire(row(), lights)
        self.assertEqual(lights, before)
        lights[0] = ("b", -9)
        lights.append(("a", -50))
        fire.lights.append(("a", -50))
        fire.times()["a"] = 0
        fire.meetings().clear()
        fire.last().clear()
        self.assertEqual(fire.lights, [((0, 1), 0), ("b", 1)])
        self.assertEqual((fire("a"), fire("b"), fire.end(), fire.times()), (1, 1, 2, {"a": 1, "b": 1}))
        self.assertEqual((fire.meetings(), fire.last()), ([(2, (0, 3))], [(0, 3)]))

    def test_never_changes(self):
        fire = Fire(row(), [("a", 0)])
        for name in ("net", "lights"):
            with self.assertRaises(AttributeError):
                setattr(fire, name, [])


class Known(unittest.TestCase):
    def test_kinds(self):
        fire = Fire(three(), [("a", 0), ((1, 1), Ratio(1, 2))])
        self.assertTrue(is_ratio(fire("a"), 0))
        self.assertTrue(is_ratio(fire((1, 1)), 1, 2))
        self.assertTrue(is_ratio(fire(point=(0, 1)), 1))
        self.assertTrue(only_ratios([fire.end(), fire.times(), fire.meetings()[0][0], fire.meetings()[0][1][1]]))
        self.assertIs(type(fire.source(point="a")), int)
        self.assertIs(type(fire.meetings()[0][1][0]), int)
        self.assertEqual(list(fire.times()), ["a", "b", "c"])

    def test_no_points(self):
        fire = Fire(row(), [("a", 0)])
        for value in odd_values() + ["c", (1, 0), (0, 5)]:
            for call in (fire, fire.source):
                with self.assertRaises(InvalidPoint) as caught:
                    call(value)
                self.assertIs(caught.exception.value, value)

    def test_wrong_point_is_told_where_nothing_burns(self):
        fire = Fire(Net(["a", "b"], []), [("a", 0)])
        self.assertEqual(raised(fire, "x"), ("InvalidPoint", {"value": "x"}))
        self.assertEqual(raised(fire.source, "x"), ("InvalidPoint", {"value": "x"}))

    def test_single_node(self):
        fire = Fire(Net(["a"], []), [("a", 3), ("a", -2)])
        self.assertTrue(is_ratio(fire.end(), -2))
        self.assertEqual((fire("a"), fire.source("a"), fire.last(), fire.meetings(), fire.times()), (-2, 1, ["a"], [], {"a": -2}))

    def test_parts_never_burn(self):
        net = Net(["a", "b", "c", "d"], [("a", "b", 2), ("d", "d", 4)])
        fire = Fire(net, [("a", 0), ("b", 0)])
        self.assertEqual((fire.end(), fire.last()), (None, []))
        self.assertEqual((fire("c"), fire((1, 1)), fire.source("c"), fire.source((1, 2))), (None, None, None, None))
        self.assertEqual(fire.times(), {"a": 0, "b": 0, "c": None, "d": None})
        self.assertEqual(fire.meetings(), [(1, (0, 1))])
        whole = Fire(net, [("a", 0), ("c", 7), ("d", 1)])
        self.assertEqual((whole.end(), whole.last(), whole.source("c")), (7, ["c"], 1))
        self.assertEqual(whole.meetings(), [(3, (1, 2))])

    def test_least_source_wins(self):
        fire = Fire(row(), [("b", 5), ("a", 0), ("a", 0), ("b", 0), ((0, 2), 2)])
        self.assertEqual([fire.source(point) for point in ("a", "b", (0, 1), (0, 2), (0, 3))], [1, 3, 1, 1, 3])

    def test_several_lights_at_one_point(self):
        fire = Fire(row(), [((0, 1), 4), ((0, 1), 1), ((0, Ratio(2, 2)), 1)])
        self.assertEqual((fire((0, 1)), fire.source((0, 1)), fire.source("b"), fire.end()), (1, 1, 1, 4))
        self.assertEqual((fire.meetings(), fire.last()), ([], ["b"]))

    def test_light_at_the_meeting(self):
        half, more = Ratio(3, 2), Ratio(5, 2)
        for time, meetings in [(1, [(half, (0, half)), (half, (0, more))]), (2, []), (3, [(2, (0, 2))])]:
            fire = Fire(row(), [("a", 0), ("b", 0), ((0, 2), time)])
            self.assertEqual(fire.meetings(), meetings)
            if time > 1:
                self.assertEqual((fire.end(), fire.last()), (2, [(0, 2)]))

    def test_last_point_at_a_light(self):
        for distance in (Ratio(1, 9), 1, 5):
            light = ((0, distance), distance)
            for lights in ([light], [light, light], [light, light, ((0, distance), distance + 1)]):
                fire = Fire(row(2 * distance), [("a", 0), ("b", 0), *lights])
                self.assertEqual((fire.end(), fire.last(), fire.meetings()), (distance, [(0, distance)], []))

    def test_light_that_only_another_inside_outruns(self):
        fire = Fire(row(12), [((0, 4), 0), ((0, 6), 3), ((0, 7), 9)])
        self.assertEqual((fire((0, 6)), fire((0, 7)), fire("b"), fire.source((0, 6))), (2, 3, 8, 0))
        self.assertEqual((fire.meetings(), fire.last(), fire.end()), ([], ["b"], 8))

    def test_meeting_at_a_node_is_none(self):
        fire = Fire(three(), [("a", 0), ("c", 2)])
        self.assertEqual((fire.meetings(), fire.end(), fire.last()), ([], 4, ["b"]))

    def test_loop(self):
        fire = Fire(Net(["a"], [("a", "a", 3)]), [("a", 1)])
        self.assertEqual((fire.meetings(), fire.last()), ([(Ratio(5, 2), (0, Ratio(3, 2)))], [(0, Ratio(3, 2))]))
        inside = Fire(Net(["a"], [("a", "a", 3)]), [((0, 1), 0)])
        self.assertEqual((inside("a"), inside.meetings()), (1, [(Ratio(3, 2), (0, Ratio(5, 2)))]))

    def test_order_of_meetings_and_last(self):
        net = Net(["a", "b"], [("a", "b", 4), ("b", "a", 4), ("a", "b", 2), ("a", "a", 4)])
        fire = Fire(net, [("a", 0), ("b", 0)])
        self.assertEqual(fire.meetings(), [(1, (2, 1)), (2, (0, 2)), (2, (1, 2)), (2, (3, 2))])
        self.assertEqual(fire.last(), [(0, 2), (1, 2), (3, 2)])
        late = Fire(Net(["b", "a", "c"], [("a", "c", 1), ("b", "c", 1)]), [("c", 0)])
        self.assertEqual(late.last(), ["b", "a"])

    def test_places_at_other_fractions(self):
        fire = Fire(row(12), [("a", 4), ((0, 4), 1), ((0, Ratio(15, 2)), 0), ("b", Ratio(1, 3))])
        for distance, time, source in [(Ratio(1, 7), 4 + Ratio(1, 7), 0), (Ratio(1, 2), Ratio(9, 2), 0), (Ratio(4, 7), 5 - Ratio(4, 7), 1),
                                       (4 + Ratio(1, 11), 1 + Ratio(1, 11), 1), (6 + Ratio(2, 7), Ratio(15, 2) - 6 - Ratio(2, 7), 2),
                                       (12 - Ratio(1, 10 ** 9), Ratio(1, 3) + Ratio(1, 10 ** 9), 3)]:
            told = Ratio(1) * time
            self.assertTrue(is_ratio(fire((0, distance)), told.top, told.bottom))
            self.assertEqual(fire.source((0, distance)), source)

    def test_thirty_digits(self):
        big = 10 ** 30
        fire = Fire(row(Ratio(big, 7)), [("a", -big), ("b", Ratio(1, big) - big)])
        self.assertEqual(fire.end(), (Ratio(big, 7) + Ratio(1, big)).over(2) - big)
        self.assertEqual(fire.meetings()[0][1][1], fire.end() + big)


class Drawn(unittest.TestCase):
    def test_cut_nets(self):
        random = Random(1)
        for case in range(200):
            nodes, fuses = random_net(random, *random.choice([(), (), (2, 2, 12)]))
            lights = random_lights(random, nodes, fuses, random.choice([1, 3, 20]))
            fire, cut = Fire(Net(nodes, fuses), lights), Cut(nodes, fuses, HALF)
            times = cut.burn(lights)
            with self.subTest(case=case, fuses=fuses, lights=lights):
                for spot in cut.spots():
                    self.assertEqual(plain(fire(point_at(cut, spot))), times.get(spot))
                self.assertEqual(plain(fire.times()), {node: times.get(node) for node in nodes})
                self.assertEqual(plain(fire.end()), cut.end(lights))
                self.assertEqual(plain(fire.last()), cut.last(lights))
                self.assertEqual(plain(fire.meetings()), cut.meetings(lights))

    def test_sources(self):
        random = Random(2)
        for _ in range(60):
            nodes, fuses = random_net(random)
            lights = random_lights(random, nodes, fuses, 4)
            fire, cut = Fire(Net(nodes, fuses), lights), Cut(nodes, fuses, HALF)
            alone = [cut.burn([light]) for light in lights]
            for _ in range(8):
                point = random_point(random, nodes, fuses)
                times = [burning.get(cut.spot(point)) for burning in alone]
                known = [time for time in times if time is not None]
                self.assertEqual(fire.source(point), times.index(min(known)) if known else None)

    def test_scaled(self):
        random = Random(3)
        for _ in range(30):
            nodes, fuses = random_net(random)
            lights = random_lights(random, nodes, fuses)
            number = Ratio(random.randint(1, 10 ** 30), random.randint(1, 10 ** 30))
            net = Net(nodes, fuses)
            moved = [(point if isinstance(point, str) else (point[0], point[1] * number), time * number) for point, time in lights]
            one, other = Fire(net, lights), Fire(net * number, moved)
            self.assertEqual(None if one.end() is None else one.end() * number, other.end())
            self.assertEqual([(time * number, (fuse, at * number)) for time, (fuse, at) in one.meetings()], other.meetings())

    def test_largest(self):
        nodes = ["abc" + letter for letter in "abcdefghijklmnopqrstuvwxyz"] + list("abcd")
        random = Random(5)
        fuses = [(nodes[index - 1], nodes[index], random.randint(1, 9)) for index in range(1, 30)]
        fuses += [(random.choice(nodes), random.choice(nodes), random.randint(1, 9)) for _ in range(11)]
        lights = random_lights(random, nodes, fuses, 20)
        fire, cut = Fire(Net(nodes, fuses), lights), Cut(nodes, fuses, HALF)
        self.assertEqual(plain(fire.times()), {node: cut.burn(lights)[node] for node in nodes})
        self.assertEqual(plain(fire.meetings()), cut.meetings(lights))
        self.assertEqual(plain(fire.last()), cut.last(lights))


if __name__ == "__main__":
    unittest.main()
