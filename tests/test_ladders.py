"""Ladders, against the net that is put together of their links."""

import unittest
from random import Random

from cutting import fraction, plain, random_net, random_point
from fusenets.errors import InvalidJoin, InvalidNumber, InvalidPoint
from fusenets.ladders import Ladder
from fusenets.nets import Net
from fusenets.ratios import Ratio
from odd import is_ratio, odd_numbers, odd_values, raised

BIG = 10 ** 30


def rungs():
    """The net of the document."""
    return Net(["a", "b", "c", "d"], [("a", "c", 5), ("b", "d", 1), ("a", "b", 1)])


class Whole:
    """A ladder put together: distances by Floyd and Warshall, with spots as nodes of their own."""

    def __init__(self, nodes, fuses, left, right, number):
        self.fuses, self.maps, parts, count = fuses, [], [], 0
        for _ in range(number):
            named = {start: self.maps[-1][stop] for start, stop in zip(left, right)} if self.maps else {}
            for node in nodes:
                if node not in named:
                    named[node] = count
                    count += 1
            self.maps.append(named)
            parts += [(named[one], named[other], fraction(length)) for one, other, length in fuses]
        self.table = [[None] * count for _ in range(count)]
        for index in range(count):
            self.table[index][index] = 0
        for one, other, length in parts:
            for here, there in ((one, other), (other, one)):
                if self.table[here][there] is None or length < self.table[here][there]:
                    self.table[here][there] = length
        for middle in range(count):
            for row in self.table:
                if row[middle] is not None:
                    for goal, way in enumerate(self.table[middle]):
                        if way is not None and (row[goal] is None or row[middle] + way < row[goal]):
                            row[goal] = row[middle] + way

    def exits(self, spot):
        """The nodes next to a spot, with their distances."""
        link, point = spot
        if isinstance(point, str):
            return [(self.maps[link][point], 0)]
        one, other, length = self.fuses[point[0]]
        return [(self.maps[link][one], fraction(point[1])), (self.maps[link][other], fraction(length) - fraction(point[1]))]

    def distance(self, one, other):
        """The distance of two spots, or None."""
        found = []
        for node, near in self.exits(one):
            for goal, far in self.exits(other):
                if self.table[node][goal] is not None:
                    found.append(near + self.table[node][goal] + far)
        if one[0] == other[0] and not isinstance(one[1], str) and not isinstance(other[1], str) and one[1][0] == other[1][0]:
            found.append(abs(fraction(one[1][1]) - fraction(other[1][1])))
        return min(found) if found else None


class Known(unittest.TestCase):
    def test_document(self):
        ladder = Ladder(rungs(), ("a", "b"), ("c", "d"), BIG)
        self.assertTrue(is_ratio(ladder.distance((0, "a"), (0, "c")), 3))
        self.assertTrue(is_ratio(ladder.distance((0, "a"), (9, "a")), 11))
        self.assertTrue(is_ratio(ladder.distance(one=(5, "a"), other=(5, "a")), 0))
        self.assertEqual(Ladder(net=rungs(), left=("a", "b"), right=("c", "d"), number=1).distance((0, "a"), (0, "c")), 5)

    def test_very_long(self):
        ladder = Ladder(rungs(), ("a", "b"), ("c", "d"), BIG)
        self.assertEqual(ladder.distance((0, "a"), (BIG - 1, "c")), BIG + 6)
        self.assertEqual(ladder.distance((BIG - 1, "c"), (0, "a")), BIG + 6)
        self.assertEqual(ladder.distance((0, (0, Ratio(5, 2))), (BIG - 1, (1, Ratio(1, 3)))), Ratio(5, 2) + 1 + BIG - 2 + Ratio(1, 3))
        self.assertEqual(ladder.distance((BIG - 1, "c"), (BIG - 1, "d")), 6 + 1)

    def test_ways_behind_and_before(self):
        net = Net(["a", "b", "c", "d"], [("a", "c", 1), ("b", "d", 1), ("c", "d", 1)])
        ladder = Ladder(net, ("a", "b"), ("c", "d"), 3)
        self.assertEqual([ladder.distance((link, "a"), (link, "b")) for link in range(3)], [3, 1, 1])
        self.assertEqual(ladder.distance((0, "a"), (1, "d")), 3)
        back = Ladder(net, ("c", "d"), ("a", "b"), 3)
        self.assertEqual([back.distance((link, "a"), (link, "b")) for link in range(3)], [1, 1, 3])

    def test_crossed_sides(self):
        net = Net(["a", "b", "c", "d"], [("a", "d", 1), ("b", "c", 2)])
        ladder = Ladder(net, ("a", "b"), ("c", "d"), BIG)
        self.assertEqual(ladder.distance((0, "a"), (BIG - 1, "c")), 3 * BIG // 2)
        self.assertIsNone(ladder.distance((0, "a"), (BIG - 1, "d")))
        self.assertEqual(ladder.distance((0, "a"), (1, "b")), 1)
        self.assertIsNone(ladder.distance((0, "a"), (0, "b")))

    def test_same_node_in_two_links(self):
        ladder = Ladder(rungs(), ("a", "b"), ("c", "d"), 4)
        self.assertEqual((ladder.distance((1, "c"), (2, "a")), ladder.distance((3, "b"), (2, "d"))), (0, 0))
        self.assertEqual(ladder.distance((1, (0, 5)), (2, (0, 0))), 0)

    def test_no_way(self):
        ladder = Ladder(Net(["a", "b", "c", "d", "e"], [("a", "c", 1), ("e", "e", 2)]), ("a", "b"), ("c", "d"), BIG)
        self.assertEqual((ladder.distance((0, "a"), (BIG - 1, "c")), ladder.distance((0, "b"), (BIG - 1, "d"))), (BIG, None))
        self.assertEqual((ladder.distance((3, "e"), (4, "e")), ladder.distance((3, "e"), (3, (1, 1))), ladder.distance((0, "d"), (1, "b"))), (None, 1, 0))


class Drawn(unittest.TestCase):
    def test_put_together(self):
        random = Random(1)
        kinds = {}
        for case in range(300):
            nodes, fuses = random_net(random, 7, 10, 5)
            if len(nodes) < 4:
                continue
            chosen = random.sample(nodes, 4)
            left, right, number = tuple(chosen[:2]), tuple(chosen[2:]), random.randint(1, 6)
            ladder, whole = Ladder(Net(nodes, fuses), left, right, number), Whole(nodes, fuses, left, right, number)
            for _ in range(12):
                one, other = [(random.randrange(number), random_point(random, nodes, fuses)) for _ in range(2)]
                if random.random() < 0.3:
                    one, other = (one[0], random.choice(left)), (other[0], random.choice(right))
                with self.subTest(case=case, nodes=nodes, fuses=fuses, left=left, right=right, number=number, one=one, other=other):
                    distance = ladder.distance(one, other)
                    self.assertEqual(plain(distance), whole.distance(one, other))
                    inner = Net(nodes, fuses).distance(one[1], other[1])
                    if one[0] == other[0] and distance is not None:
                        kinds[inner is None, inner != distance] = True
        self.assertEqual(len(kinds), 3)

    def test_scaled(self):
        factor = Ratio(10 ** 30 + 7, 10 ** 29 + 9)
        one, other = Ladder(rungs(), ("a", "b"), ("c", "d"), BIG), Ladder(rungs() * factor, ("a", "b"), ("c", "d"), BIG)
        for goal in ("a", "b", "c", "d"):
            self.assertEqual(one.distance((0, "a"), (BIG // 3, goal)) * factor, other.distance((0, "a"), (BIG // 3, goal)))


class Wrong(unittest.TestCase):
    def test_sides(self):
        wrong = [("a",), ("a", "b", "c"), ["a", "b"], ("a", "a"), ("a", "x"), ("x", "a"), (0, "a"), ("a", None), "ab"]
        for value in wrong + odd_values():
            with self.assertRaises(InvalidJoin) as caught:
                Ladder(rungs(), value, 0, 0)
            self.assertIs(caught.exception.value, value)
            with self.assertRaises(InvalidJoin) as caught:
                Ladder(rungs(), ("a", "b"), value, 0)
            self.assertIs(caught.exception.value, value)
        for value in [("a", "c"), ("c", "a"), ("b", "d"), ("d", "b"), ("b", "a")]:
            self.assertEqual(raised(Ladder, rungs(), ("a", "b"), value, 0), ("InvalidJoin", {"value": value}))

    def test_numbers(self):
        for value in odd_numbers() + [0, -1, BIG + 1, Ratio(1), Ratio(1, 2)]:
            with self.assertRaises(InvalidNumber) as caught:
                Ladder(rungs(), ("a", "b"), ("c", "d"), value)
            self.assertIs(caught.exception.value, value)

    def test_spots(self):
        ladder = Ladder(rungs(), ("a", "b"), ("c", "d"), 3)
        wrong = [(3, "a"), (-1, "a"), (True, "a"), (Ratio(0), "a"), ("a", 0), (0, "x"), (0, (3, 1)), (0, (0, 6)), [0, "a"], (0,), (0, "a", 0), "a"]
        for value in wrong + odd_values():
            for pair in ((value, value), (value, (0, "a")), ((0, "a"), value)):
                with self.assertRaises(InvalidPoint) as caught:
                    ladder.distance(*pair)
                self.assertIs(caught.exception.value, value)


if __name__ == "__main__":
    unittest.main()
