"""Fewest lights on trees: what is returned is checked with distances that are found in another way."""

import unittest
from copy import deepcopy
from itertools import combinations
from random import Random

from cutting import distances_between, fraction, plain, random_tree
from fusenets.errors import InvalidNumber, LimitExceeded, NotATree
from fusenets.nets import Net
from fusenets.ratios import Ratio
from fusenets.trees import apart, cover, fewest, is_apart, is_cover, least_time
from odd import Strange, is_ratio, odd_numbers, odd_values, raised

NO_TREES = [Net(["a", "b"], []), Net(["a"], [("a", "a", 1)]), Net(["a", "b"], [("a", "b", 1), ("b", "a", 1)]),
            Net(["a", "b", "c"], [("a", "b", 1), ("b", "a", 2)]), Net(["a", "b"], [("a", "a", 3)])]


def row(length=4):
    """A single fuse."""
    return Net(["a", "b"], [("a", "b", length)])


def star(*lengths):
    """Fuses from one node to others."""
    nodes = list("bcdefghij"[:len(lengths)])
    return Net(["a", *nodes], [("a", node, length) for node, length in zip(nodes, lengths)])


def plainly_covered(net, time, points):
    """Whether points cover the net, from distances by Floyd and Warshall."""
    names, parts, table, spots = distances_between(net.nodes, net.fuses, points)
    near = {name: min((table[spot, name] for spot in spots), default=None) for name in names}
    if None in near.values():
        return False
    ends = list(near.values()) + [(near[one] + near[other] + length) / 2 for one, other, length in parts]
    return max(ends) <= fraction(time)


def plainly_apart(net, time, points):
    """Whether points are apart, from distances by Floyd and Warshall."""
    _, _, table, spots = distances_between(net.nodes, net.fuses, points)
    return all(table[one, other] > 2 * fraction(time) for one, other in combinations(spots, 2))


class Known(unittest.TestCase):
    def test_document(self):
        net = Net(["a", "b", "c"], [("a", "b", 4), ("b", "c", 2)])
        self.assertEqual([fewest(net, time) for time in (Ratio(1, 2), 1, Ratio(3, 2), 2, 3, 4)], [6, 3, 2, 2, 1, 1])
        self.assertEqual([least_time(net, number) for number in (1, 2, 3, 6)], [3, Ratio(3, 2), 1, Ratio(1, 2)])

    def test_rows(self):
        for length in (1, 6, Ratio(22, 7), 10 ** 30):
            for number in range(1, 30):
                time = least_time(row(length), number)
                self.assertEqual(time * 2 * number, length)
                self.assertEqual(fewest(row(length), time), number)
                self.assertEqual(fewest(row(length), time * Ratio(999999, 1000000)), number + 1)

    def test_stars(self):
        self.assertEqual([fewest(star(2, 2, 2), time) for time in (2, Ratio(19, 10), 1, Ratio(99, 100))], [1, 3, 3, 4])
        self.assertEqual([least_time(star(2, 2, 2), number) for number in (1, 2, 3, 4, 6)], [2, 2, 1, Ratio(2, 3), Ratio(1, 2)])
        self.assertEqual([least_time(star(5, 1, 1), number) for number in (1, 2)], [3, Ratio(3, 2)])

    def test_one_node(self):
        net = Net(["a"], [])
        for time in (1, Ratio(1, 10 ** 30), 10 ** 30):
            self.assertEqual((fewest(net, time), cover(net, time), apart(net, time)), (1, ["a"], ["a"]))
            self.assertEqual((is_cover(net, time, ["a"]), is_cover(net, time, []), is_apart(net, time, [])), (True, False, True))
        for number in (1, 2, 200):
            self.assertTrue(is_ratio(least_time(net, number), 0))

    def test_kinds(self):
        net = row()
        self.assertIs(type(fewest(net=net, time=1)), int)
        self.assertTrue(is_ratio(least_time(net=net, number=3), 2, 3))
        for points in (cover(net=net, time=Ratio(1, 2)), apart(net=net, time=Ratio(1, 2))):
            self.assertEqual(points, [net.point(point) for point in points])
            self.assertTrue(all(isinstance(point, str) or isinstance(point[1], Ratio) for point in points))
        self.assertIs(is_cover(net=net, time=1, value=[(0, 1), (0, 3)]), True)
        self.assertIs(is_apart(net=net, time=1, value=[(0, 1), (0, 3)]), False)

    def test_very_many(self):
        self.assertEqual(fewest(row(4), Ratio(1, 10 ** 30)), 2 * 10 ** 30)
        self.assertEqual(fewest(row(10 ** 60), Ratio(1, 2)), 10 ** 60)
        self.assertEqual(fewest(row(10 ** 60), Ratio(1, 10 ** 60)), 5 * 10 ** 119)
        self.assertEqual(fewest(star(10 ** 40, 10 ** 40, 1), 1), 10 ** 40 + 1)
        chain = Net(["a", "b", "c"], [("a", "b", 3 * 10 ** 31), ("c", "b", 10 ** 31 + 1)])
        self.assertEqual(fewest(chain, 1), 2 * 10 ** 31 + 1)

    def test_two_hundred(self):
        for net, time in [(row(200), Ratio(1, 2)), (star(100, 100), Ratio(1, 2)), (star(*[40] * 5), Ratio(1, 2))]:
            self.assertEqual((fewest(net, time), len(cover(net, time)), len(apart(net, time))), (200, 200, 200))
            self.assertTrue(is_cover(net, time, cover(net, time)))
            self.assertTrue(is_apart(net, time, apart(net, time)))
            less = time * Ratio(99999, 100000)
            self.assertGreater(fewest(net, less), 200)
            for call in (cover, apart):
                self.assertEqual(raised(call, net, less), ("LimitExceeded", {"limit": 200}))
                self.assertRaises(LimitExceeded, call, net, Ratio(1, 10 ** 40))

    def test_close_to_the_next_number(self):
        for digits in (5, 60):
            time = Ratio(1, 2) - Ratio(1, 10 ** digits)
            points = apart(row(3), time)
            self.assertEqual(len(points), 4)
            self.assertTrue(plainly_apart(row(3), time, points))


class Checks(unittest.TestCase):
    def test_is_cover(self):
        net = Net(["a", "b", "c"], [("a", "b", 4), ("b", "c", 2)])
        rows = [([(0, 1), (0, 3), (1, 1)], 1, True), ([(0, 1), (0, 3), "c"], 1, False), ([(0, 1), (0, 3), "b"], 1, False), ([(0, 3)], 3, True),
                ([(0, 3)], Ratio(29, 10), False), (["a", "b", "c"], 2, True), (["a", "b", "c"], Ratio(19, 10), False), ([], 100, False),
                (["a"], 6, True), (["a", "a", "a"], 6, True), ([(0, 0), (1, 0)] * 20, 2, True), (["a", "x"], 100, False)]
        for points, time, wanted in rows:
            self.assertIs(is_cover(net, time, points), wanted, (points, time))

    def test_is_apart(self):
        net = Net(["a", "b", "c"], [("a", "b", 4), ("b", "c", 2)])
        rows = [(["a", "b", "c"], 1, False), (["a", "b", "c"], Ratio(99, 100), True), (["a", "c"], 3, False), (["a", "c"], Ratio(29, 10), True),
                ([(0, 1), (0, 3)], Ratio(9, 10), True), ([(0, 1), (0, 3)], 1, False), ([(0, 4), "b"], Ratio(1, 99), False), (["a"], 50, True),
                ([], 50, True), (["a", "a"], Ratio(1, 99), False), (["x"], 1, False), (["a", "x"], 1, False), ([(0, 3), (1, 1)], Ratio(9, 10), True),
                ([(0, 3), (1, 1)], 1, False)]
        for points, time, wanted in rows:
            self.assertIs(is_apart(net, time, points), wanted, (points, time))

    def test_any_values(self):
        net = row()
        for value in odd_values() + ["a", ("a", "b"), {"a": 1}, {"a"}, (0, 1), [(0, 5)], [["a"]], ["a", None], [Strange()], Strange()]:
            if not isinstance(value, list) or len(value) > 0:
                self.assertIs(is_cover(net, 10, value), False)
                self.assertIs(is_apart(net, Ratio(1, 10), value), False)

    def test_many_points(self):
        net = row(1000)
        points = [(0, Ratio(at)) for at in range(1000)]
        self.assertTrue(is_cover(net, 1, points))
        self.assertFalse(is_cover(net, Ratio(1, 3), points))
        self.assertTrue(is_apart(net, Ratio(1, 3), points[:300]))
        self.assertFalse(is_apart(net, Ratio(1, 2), points))


class Wrong(unittest.TestCase):
    def calls(self):
        """All functions with a time, as functions of a net and a time."""
        return [fewest, cover, apart, lambda net, time: is_cover(net, time, ["a"]), lambda net, time: is_apart(net, time, None)]

    def test_no_trees(self):
        for net in NO_TREES:
            for call in self.calls():
                for time in (1, 0, None, Strange()):
                    self.assertEqual(raised(call, net, time), ("NotATree", {}))
            for number in (1, 0, None, 201):
                self.assertEqual(raised(least_time, net, number), ("NotATree", {}))
        self.assertRaises(NotATree, fewest, NO_TREES[0], 1)

    def test_times(self):
        for value in odd_numbers() + [0, -1, Ratio(0), Ratio(-1, 7)]:
            for call in self.calls():
                for net in (row(), Net(["a"], [])):
                    with self.assertRaises(InvalidNumber) as caught:
                        call(net, value)
                    self.assertIs(caught.exception.value, value)

    def test_numbers(self):
        for value in odd_numbers() + [0, -1, 201, 10 ** 40, Ratio(1), Ratio(1, 2), Ratio(200)]:
            for net in (row(), Net(["a"], [])):
                with self.assertRaises(InvalidNumber) as caught:
                    least_time(net, value)
                self.assertIs(caught.exception.value, value)

    def test_nothing_is_changed(self):
        net, points = row(), [(0, 1), (0, 3), "a"]
        before = deepcopy(points)
        is_cover(net, 1, points), is_apart(net, 1, points), cover(net, 1), apart(net, 1), least_time(net, 7)
        cover(net, 1).clear()
        self.assertEqual((points, net), (before, row()))


class Drawn(unittest.TestCase):
    def test_cover_and_apart(self):
        random = Random(1)
        for _ in range(120):
            nodes, fuses = random_tree(random)
            net = Net(nodes, fuses)
            time = Ratio(random.randint(1, 12), random.choice([1, 2, 3, 7]))
            number = fewest(net, time)
            if number > 12:
                continue
            covering, away = cover(net, time), apart(net, time)
            with self.subTest(nodes=nodes, fuses=fuses, time=time):
                self.assertEqual((len(covering), len(away)), (number, number))
                self.assertTrue(plainly_covered(net, time, covering))
                self.assertTrue(plainly_apart(net, time, away))
                self.assertIs(is_cover(net, time, covering), True)
                self.assertIs(is_apart(net, time, away), True)
                self.check_less(random, net, time, covering, away)

    def check_less(self, random, net, time, covering, away):
        """The same lists with one point moved, missing or added."""
        for points in (covering[1:], covering[:-1], away):
            self.assertIs(is_cover(net, time, points), plainly_covered(net, time, points) if points else False)
        for points in (away + [net.nodes[0]], covering, away[1:]):
            self.assertIs(is_apart(net, time, points), plainly_apart(net, time, points))
        if net.fuses:
            fuse = random.randrange(len(net))
            moved = covering[1:] + [(fuse, net.fuses[fuse][2] * Ratio(1, 3))]
            self.assertIs(is_cover(net, time, moved), plainly_covered(net, time, moved))
            self.assertIs(is_apart(net, time, moved), plainly_apart(net, time, moved))

    def test_large_fractions(self):
        random = Random(2)
        for _ in range(8):
            nodes, fuses = random_tree(random, 8)
            net = Net(nodes, [(one, other, Ratio(random.randint(10 ** 59, 10 ** 60), random.randint(10 ** 29, 10 ** 30)))
                              for one, other, _ in fuses])
            time = Ratio(random.randint(10 ** 59, 10 ** 60), random.randint(10 ** 29, 10 ** 30))
            covering, away = cover(net, time), apart(net, time)
            self.assertEqual(len(covering), len(away))
            self.assertTrue(plainly_covered(net, time, covering))
            self.assertTrue(plainly_apart(net, time, away))

    def test_least_time(self):
        random = Random(3)
        for _ in range(40):
            nodes, fuses = random_tree(random)
            if not fuses:
                continue
            net = Net(nodes, fuses)
            for number in (1, 2, 3, 4, 7, 11):
                time = least_time(net, number)
                points = cover(net, time)
                self.assertLessEqual(len(points), number)
                self.assertTrue(plainly_covered(net, time, points))
                less = time * Ratio(999999, 1000000)
                away = apart(net, less)
                self.assertGreater(len(away), number)
                self.assertTrue(plainly_apart(net, less, away))
                self.assertEqual(time, self.least_of_all(net, number))

    def least_of_all(self, net, number):
        """The least of all distances of nodes, divided by any possible integer, that is enough."""
        ends = [net.distance(one, other) for one, other in combinations(net.nodes, 2)]
        times = {plain(end) / share for end in ends for share in range(1, 2 * number + 2)}
        ordered = sorted(times)
        low, high = -1, len(ordered) - 1
        while high - low > 1:
            middle = (low + high) // 2
            time = Ratio(ordered[middle].numerator, ordered[middle].denominator)
            if fewest(net, time) <= number:
                high = middle
            else:
                low = middle
        return Ratio(ordered[high].numerator, ordered[high].denominator)

    def test_all_numbers(self):
        random = Random(4)
        nodes = ["abc" + letter for letter in "abcdefghijklmnopqrstuvwxyz"] + list("abcd")
        fuses = [(nodes[random.randrange(index)], nodes[index], random.randint(1, 99)) for index in range(1, 30)]
        net = Net(nodes, fuses)
        before = None
        for number in range(1, 201):
            time = least_time(net, number)
            self.assertLessEqual(fewest(net, time), number)
            self.assertGreater(fewest(net, time * Ratio(10 ** 9 - 1, 10 ** 9)), number)
            self.assertTrue(before is None or time <= before)
            before = time


if __name__ == "__main__":
    unittest.main()
