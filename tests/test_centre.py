"""Reaches and best points, against reaches in a cut net."""

import unittest
from fractions import Fraction
from random import Random

from cutting import Cut, plain, random_net, random_point
from fusenets.centre import best_points, reach, reach_along
from fusenets.errors import InvalidFuse, InvalidPoint
from fusenets.nets import Net
from fusenets.ratios import Ratio
from odd import Strange, is_ratio, odd_numbers, odd_values

QUARTER, EIGHTH = Fraction(1, 4), Fraction(1, 8)


def connected_nets(seed, number):
    """Tuples (nodes, fuses) of small connected nets with whole lengths."""
    random = Random(seed)
    while number:
        nodes, fuses = random_net(random, 4, 5, 3)
        if Net(nodes, fuses).is_connected():
            number -= 1
            yield nodes, fuses


def cut_reaches(nodes, fuses, fuse):
    """The reaches at all quarters of a fuse, and the distances where their slope changes."""
    cut = Cut(nodes, fuses, EIGHTH)
    quarters = range(4 * fuses[fuse][2] + 1)
    reaches = [cut.end([((fuse, quarter * QUARTER), 0)]) for quarter in quarters]
    bends = [quarter for quarter in quarters[1:-1]
             if reaches[quarter] - reaches[quarter - 1] != reaches[quarter + 1] - reaches[quarter]]
    return reaches, [0, *bends, quarters[-1]]


class Reach(unittest.TestCase):
    def test_known(self):
        net = Net(["a", "b", "c"], [("a", "b", 4), ("b", "c", 2)])
        for point, wanted in [("a", (6,)), ("b", (4,)), ("c", (6,)), ((0, 3), (3,)), ((0, Ratio(7, 2)), (7, 2)), ((1, 2), (6,))]:
            self.assertTrue(is_ratio(reach(net, point), *wanted))
        self.assertEqual(reach(net=net, point="a"), 6)
        self.assertTrue(is_ratio(reach(Net(["a"], []), "a"), 0))
        self.assertTrue(is_ratio(reach(Net(["a"], [("a", "a", 5)]), (0, 1)), 5, 2))

    def test_parts(self):
        net = Net(["a", "b"], [("a", "a", 1)])
        for point in ("a", "b", (0, Ratio(1, 2))):
            self.assertIsNone(reach(net, point))

    def test_no_points(self):
        for net in (Net(["a", "b"], [("a", "b", 4)]), Net(["a", "b"], [])):
            for value in odd_values() + ["c", (0, 5)]:
                with self.assertRaises(InvalidPoint) as caught:
                    reach(net, value)
                self.assertIs(caught.exception.value, value)

    def test_drawn(self):
        random = Random(1)
        for _ in range(80):
            nodes, fuses = random_net(random)
            point = random_point(random, nodes, fuses)
            self.assertEqual(plain(reach(Net(nodes, fuses), point)), Cut(nodes, fuses, Fraction(1, 2)).end([(point, 0)]))


class Along(unittest.TestCase):
    def test_known(self):
        net = Net(["a", "b", "c"], [("a", "b", 4), ("b", "c", 2)])
        self.assertEqual(reach_along(net, 1), [(0, 4), (2, 6)])
        self.assertEqual(reach_along(net=net, fuse=0), [(0, 6), (3, 3), (4, 4)])
        self.assertTrue(all(isinstance(row, tuple) and all(isinstance(number, Ratio) for number in row) for row in reach_along(net, 0)))

    def test_rings(self):
        ring = Net(["a", "b"], [("a", "b", 3), ("b", "a", 2)])
        self.assertEqual([reach_along(ring, fuse) for fuse in (0, 1)], [[(0, Ratio(5, 2)), (3, Ratio(5, 2))], [(0, Ratio(5, 2)), (2, Ratio(5, 2))]])
        self.assertEqual(reach_along(Net(["a"], [("a", "a", 3)]), 0), [(0, Ratio(3, 2)), (3, Ratio(3, 2))])
        tail = Net(["a", "b"], [("a", "a", 4), ("a", "b", 3)])
        self.assertEqual(reach_along(tail, 0), [(0, 3), (2, 5), (4, 3)])
        self.assertEqual(reach_along(tail, 1), [(0, 3), (Ratio(1, 2), Ratio(5, 2)), (3, 5)])

    def test_wrong_fuses(self):
        for net, number in [(Net(["a", "b"], [("a", "b", 4)]), 1), (Net(["a", "b"], []), 0), (Net(["a", "b"], [("a", "a", 1)]), 1)]:
            for value in odd_numbers() + odd_values() + [-1, number, number + 1, 10 ** 40, Ratio(0), Strange()]:
                with self.assertRaises(InvalidFuse) as caught:
                    reach_along(net, value)
                self.assertIs(caught.exception.value, value)

    def test_parts(self):
        self.assertIsNone(reach_along(Net(["a", "b"], [("a", "a", 1)]), 0))

    def test_drawn(self):
        for nodes, fuses in connected_nets(2, 40):
            net = Net(nodes, fuses)
            for fuse in range(len(fuses)):
                reaches, bends = cut_reaches(nodes, fuses, fuse)
                wanted = [(bend * QUARTER, reaches[bend]) for bend in bends]
                self.assertEqual(plain(reach_along(net, fuse)), wanted, (fuses, fuse))

    def test_between(self):
        random = Random(3)
        for nodes, fuses in connected_nets(4, 20):
            net = Net(nodes, fuses) * Ratio(random.randint(1, 10 ** 60), random.randint(1, 10 ** 60))
            for fuse in range(len(fuses)):
                rows = reach_along(net, fuse)
                self.assertEqual((rows[0][0], rows[-1][0]), (0, net.fuses[fuse][2]))
                for (start, low), (end, high) in zip(rows, rows[1:]):
                    self.assertLess(start, end)
                    self.assertEqual(reach(net, (fuse, start)), low)
                    self.assertEqual(reach(net, (fuse, (start + end).over(2))), (low + high).over(2))


class Best(unittest.TestCase):
    def test_known(self):
        net = Net(["a", "b", "c"], [("a", "b", 4), ("b", "c", 2)])
        self.assertEqual(best_points(net=net), (3, [(0, 3, 3)]))
        star = Net(["a", "b", "c", "d"], [("a", "b", 2), ("c", "a", 2), ("d", "a", 2)])
        self.assertEqual(best_points(star), (2, [(0, 0, 0), (1, 2, 2), (2, 2, 2)]))
        ring = Net(["a", "b"], [("a", "b", 3), ("b", "a", 2)])
        self.assertEqual(best_points(ring), (Ratio(5, 2), [(0, 0, 3), (1, 0, 2)]))
        self.assertEqual(best_points(Net(["a"], [("a", "a", 4)])), (2, [(0, 0, 4)]))
        two = Net(["a"], [("a", "a", 4), ("a", "a", 4)])
        self.assertEqual(best_points(two), (2, [(0, 0, 0), (0, 4, 4), (1, 0, 0), (1, 4, 4)]))

    def test_kinds(self):
        least, stretches = best_points(Net(["a", "b"], [("a", "b", 3)]))
        self.assertTrue(is_ratio(least, 3, 2))
        self.assertEqual([type(part) for part in stretches[0]], [int, Ratio, Ratio])
        self.assertIsInstance(stretches[0], tuple)

    def test_without_fuses(self):
        least, stretches = best_points(Net(["a"], []))
        self.assertTrue(is_ratio(least, 0))
        self.assertEqual(stretches, [])

    def test_parts(self):
        self.assertIsNone(best_points(Net(["a", "b"], [])))
        self.assertIsNone(best_points(Net(["a", "b"], [("a", "a", 1), ("b", "b", 2)])))

    def test_drawn(self):
        for nodes, fuses in connected_nets(5, 60):
            tables = [cut_reaches(nodes, fuses, fuse)[0] for fuse in range(len(fuses))]
            if not tables:
                continue
            least = min(min(reaches) for reaches in tables)
            wanted = []
            for fuse, reaches in enumerate(tables):
                start = None
                for quarter, far in enumerate([*reaches, None]):
                    if far == least and start is None:
                        start = quarter
                    elif far != least and start is not None:
                        wanted.append((fuse, start * QUARTER, (quarter - 1) * QUARTER))
                        start = None
            self.assertEqual(plain(best_points(Net(nodes, fuses))), (least, wanted), fuses)

    def test_largest(self):
        random = Random(6)
        nodes = ["abc" + letter for letter in "abcdefghijklmnopqrstuvwxyz"] + list("abcd")
        fuses = [(nodes[random.randrange(index)], nodes[index], Ratio(random.randint(1, 10 ** 60), random.randint(1, 10 ** 60)))
                 for index in range(1, 30)]
        fuses += [(random.choice(nodes), random.choice(nodes), Ratio(random.randint(1, 10 ** 60), 7)) for _ in range(11)]
        net = Net(nodes, fuses)
        least, stretches = best_points(net)
        fuse, start, end = stretches[0]
        self.assertEqual((reach(net, (fuse, start)), reach(net, (fuse, end))), (least, least))
        self.assertTrue(all(reach(net, node) >= least for node in nodes[:5]))

    def test_nothing_is_changed(self):
        net = Net(["a", "b"], [("a", "b", 3), ("b", "b", 1)])
        best_points(net)[1].clear()
        reach_along(net, 0).clear()
        self.assertEqual(net, Net(["a", "b"], [("a", "b", 3), ("b", "b", 1)]))
        self.assertEqual(best_points(net), best_points(net))


if __name__ == "__main__":
    unittest.main()
