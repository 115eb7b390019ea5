"""Nets: what they are made of, their points and distances."""

import unittest
from fractions import Fraction
from random import Random

from cutting import Cut, distances_between, plain, random_net, random_point
from fusenets.errors import InvalidNet, InvalidNumber, InvalidPoint
from fusenets.nets import Net
from fusenets.ratios import Ratio
from odd import Strange, is_ratio, odd_numbers, odd_values, raised


def many_nodes(number):
    """So many different nodes of eight letters."""
    return ["abcdef" + "abcdefghij"[index // 10] + "abcdefghij"[index % 10] for index in range(number)]


def three():
    """The net of the document."""
    return Net(["a", "b", "c"], [("a", "b", 4), ("b", "c", 2)])


class Making(unittest.TestCase):
    def test_properties(self):
        net = Net(["b", "a"], [("b", "a", 3), ("a", "a", Ratio(1, 2)), ("a", "b", 3)])
        self.assertEqual(net.nodes, ["b", "a"])
        self.assertEqual(net.fuses, [("b", "a", 3), ("a", "a", Ratio(1, 2)), ("a", "b", 3)])
        self.assertTrue(all(isinstance(fuse, tuple) and isinstance(fuse[2], Ratio) for fuse in net.fuses))
        self.assertTrue(is_ratio(net.length, 13, 2))
        self.assertEqual(len(net), 3)

    def test_names(self):
        self.assertEqual(Net(nodes=["a"], fuses=[]), Net(["a"], []))

    def test_smallest_and_largest(self):
        net = Net(["a"], [])
        self.assertTrue(is_ratio(net.length, 0))
        self.assertEqual((net.nodes, net.fuses, len(net)), (["a"], [], 0))
        nodes = many_nodes(30)
        fuses = [(nodes[index % 30], nodes[index * 7 % 30], 1) for index in range(40)]
        self.assertEqual((len(Net(nodes, fuses)), len(Net(nodes, fuses).nodes)), (40, 30))
        self.assertEqual(raised(Net, many_nodes(31), []), ("InvalidNet", {"part": "nodes"}))
        self.assertEqual(raised(Net, nodes, fuses + fuses[:1]), ("InvalidNet", {"part": "fuses"}))
        self.assertEqual(len(Net(["a"], [("a", "a", 1)] * 40)), 40)

    def test_wrong_nodes(self):
        for value in odd_values() + ["a", ("a",), ["a", "a"], ["a", ""], ["a", "B"], ["a", "abcdefghi"], ["a", "b "], ["a", 1],
                                     ["a", None], ["a", ["b"]], ["a", Strange()], {"a": 1}, ["a", b"b"], ["a", "b\n"]]:
            with self.assertRaises(InvalidNet) as caught:
                Net(value, [])
            self.assertEqual(caught.exception.part, "nodes")

    def test_wrong_fuses(self):
        good = ("a", "b", 1)
        lists = [None, True, 1, "ab", (good,), {}, {0: good}, good, Strange(), set()]
        items = [["a", "b", 1], ("a", "b"), ("a", "b", 1, 1), ("a", "c", 1), ("c", "a", 1), ("a", "B", 1), (None, "b", 1),
                 ("a", ["b"], 1), (Strange(), "b", 1), ("a", "b", 0), ("a", "b", -1), ("a", "b", Ratio(0)), ("a", "b", Ratio(-1, 2)), "ab1"]
        items += [("a", "b", value) for value in odd_numbers()] + odd_values()
        lists += [[item] for item in items] + [[good, item] for item in items]
        for value in lists:
            with self.assertRaises(InvalidNet) as caught:
                Net(["a", "b"], value)
            self.assertEqual(caught.exception.part, "fuses")

    def test_nodes_are_checked_first(self):
        self.assertEqual(raised(Net, [], None), ("InvalidNet", {"part": "nodes"}))

    def test_arguments_are_not_kept(self):
        nodes, fuses = ["a", "b"], [("a", "b", 1)]
        net = Net(nodes, fuses)
        nodes.append("c")
        fuses.clear()
        self.assertEqual((net.nodes, net.fuses), (["a", "b"], [("a", "b", 1)]))
        net.nodes.append("c")
        net.fuses.clear()
        self.assertEqual((net.nodes, net.fuses), (["a", "b"], [("a", "b", 1)]))

    def test_arguments_are_not_changed(self):
        nodes, fuses = ["b", "a"], [("b", "a", 1), ("a", "a", 2)]
        Net(nodes, fuses)
        self.assertEqual((nodes, fuses), (["b", "a"], [("b", "a", 1), ("a", "a", 2)]))
        self.assertIs(type(fuses[0][2]), int)

    def test_never_changes(self):
        for name in ("nodes", "fuses", "length"):
            with self.assertRaises(AttributeError):
                setattr(three(), name, [])


class Operators(unittest.TestCase):
    def test_in(self):
        net = three()
        self.assertEqual([node in net for node in ("a", "b", "c", "d")], [True, True, True, False])
        for value in odd_values():
            self.assertIs(value in net, False)

    def test_times(self):
        net = three()
        for number, fuses in [(2, [8, 4]), (Ratio(1, 3), [Ratio(4, 3), Ratio(2, 3)]), (1, [4, 2])]:
            made = net * number
            self.assertEqual([fuse[2] for fuse in made.fuses], fuses)
            self.assertEqual([fuse[:2] for fuse in made.fuses], [("a", "b"), ("b", "c")])
            self.assertEqual(made.nodes, net.nodes)
        self.assertEqual(net, three())
        self.assertEqual((Net(["a"], []) * 3).fuses, [])

    def test_times_wrong(self):
        for value in odd_numbers() + [0, -1, Ratio(0), Ratio(-1, 2), three()]:
            with self.assertRaises(InvalidNumber) as caught:
                three() * value
            self.assertIs(caught.exception.value, value)

    def test_equality(self):
        self.assertTrue(three() == Net(["a", "b", "c"], [("a", "b", Ratio(8, 2)), ("b", "c", 2)]))
        for nodes, fuses in [(["a", "c", "b"], [("a", "b", 4), ("b", "c", 2)]), (["a", "b", "c"], [("b", "c", 2), ("a", "b", 4)]),
                             (["a", "b", "c"], [("b", "a", 4), ("b", "c", 2)]), (["a", "b", "c"], [("a", "b", 4), ("b", "c", 3)]),
                             (["a", "b", "c"], [("a", "b", 4)]), (["a", "b", "c", "d"], [("a", "b", 4), ("b", "c", 2)])]:
            self.assertFalse(three() == Net(nodes, fuses))
            self.assertTrue(three() != Net(nodes, fuses))
        for value in odd_values():
            if not isinstance(value, Strange):
                self.assertFalse(three() == value)


class Points(unittest.TestCase):
    def test_nodes_and_places(self):
        net = Net(["a", "b"], [("a", "b", Ratio(7, 2)), ("b", "b", 2)])
        for value, wanted in [("a", "a"), ("b", "b"), ((0, 0), "a"), ((0, Ratio(0)), "a"), ((0, Ratio(7, 2)), "b"), ((1, 0), "b"),
                              ((1, 2), "b"), ((0, 3), (0, 3)), ((1, Ratio(1, 2)), (1, Ratio(1, 2)))]:
            self.assertTrue(net.is_point(value))
            self.assertEqual(net.point(value), wanted)
        self.assertIsInstance(net.point((0, 3))[1], Ratio)
        self.assertIs(type(net.point((0, 3))[0]), int)
        self.assertEqual((net.is_point(value=(0, 1)), net.point(value="a")), (True, "a"))

    def test_no_points(self):
        net = Net(["a", "b"], [("a", "b", 3)])
        wrong = odd_values() + ["c", (0, Ratio(-1, 9)), (0, Ratio(28, 9)), (1, 1), (0, 1, 1), (0,), [0, 1], ("a", 1), ("a", "b"),
                                (Ratio(0), 1), (0, Strange()), (Strange(), 0), ([], 1), 0, 1]
        for value in wrong:
            self.assertIs(net.is_point(value), False)
            for call in (net.point, lambda value: net.distance(value, "a"), lambda value: net.distance("a", value)):
                with self.assertRaises(InvalidPoint) as caught:
                    call(value)
                self.assertIs(caught.exception.value, value)

    def test_first_wrong_point_is_told(self):
        self.assertEqual(raised(three().distance, "x", "y"), ("InvalidPoint", {"value": "x"}))


class Distances(unittest.TestCase):
    def test_known(self):
        net = Net(["a", "b", "c", "d"], [("a", "b", 10), ("a", "b", 2), ("c", "c", 6)])
        rows = [("a", "b", 2), ("a", "a", 0), ((0, 4), (0, 4), 0), ((0, 1), (0, 9), 4), ((0, 3), (0, 5), 2), ((0, 5), (1, 1), 6),
                ("c", (2, 5), 1), ((2, 1), (2, 5), 2), ((2, 1), (2, 3), 2), ((0, 0), (0, 10), 2), ("a", "c", None), ("d", "c", None),
                ("d", "d", 0), ((2, 1), (0, 1), None)]
        for one, other, wanted in rows:
            for pair in ((one, other), (other, one)):
                told = net.distance(*pair)
                self.assertTrue(told is None if wanted is None else is_ratio(told, wanted), (pair, told))
        self.assertEqual(net.distance(one="a", other="b"), 2)

    def test_cut_nets(self):
        random = Random(7)
        for _ in range(60):
            nodes, fuses = random_net(random)
            net, cut = Net(nodes, fuses), Cut(nodes, fuses, Fraction(1, 2))
            for _ in range(6):
                one, other = random_point(random, nodes, fuses), random_point(random, nodes, fuses)
                wanted = cut.burn([(one, 0)]).get(cut.spot(other))
                self.assertEqual(plain(net.distance(one, other)), wanted, (fuses, one, other))

    def test_large_fractions(self):
        random = Random(8)
        nodes = many_nodes(6)
        for _ in range(5):
            fuses = [(random.choice(nodes), random.choice(nodes), Ratio(random.randint(1, 10 ** 60), random.randint(1, 10 ** 60)))
                     for _ in range(9)]
            points = nodes + [(index, fuses[index][2] * Ratio(1, 3)) for index in range(9)]
            _, _, table, spots = distances_between(nodes, fuses, points)
            net = Net(nodes, fuses)
            for one, first in zip(points, spots):
                for other, second in zip(points, spots):
                    self.assertEqual(plain(net.distance(one, other)), table[first, second])

    def test_connected_and_tree(self):
        rows = [(["a"], [], True, True), (["a"], [("a", "a", 1)], True, False), (["a", "b"], [], False, False),
                (["a", "b"], [("a", "b", 1)], True, True), (["a", "b"], [("a", "a", 1)], False, False),
                (["a", "b"], [("a", "b", 1), ("b", "a", 1)], True, False),
                (["a", "b", "c"], [("a", "b", 1), ("b", "a", 1)], False, False),
                (["a", "b", "c"], [("c", "b", 1), ("b", "a", 1)], True, True),
                (["a", "b", "c", "d"], [("a", "b", 1), ("c", "d", 1)], False, False)]
        for nodes, fuses, connected, tree in rows:
            net = Net(nodes, fuses)
            self.assertIs(net.is_connected(), connected)
            self.assertIs(net.is_tree(), tree)

    def test_drawn_nets(self):
        random = Random(9)
        for _ in range(80):
            nodes, fuses = random_net(random)
            net = Net(nodes, fuses)
            connected = all(net.distance(nodes[0], node) is not None for node in nodes)
            self.assertIs(net.is_connected(), connected)
            self.assertIs(net.is_tree(), connected and len(fuses) == len(nodes) - 1)


if __name__ == "__main__":
    unittest.main()
