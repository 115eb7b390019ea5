"""A star of twenty fuses whose ends are all lit: right answers, and soon enough."""

import unittest
from random import Random
from time import process_time

from fusenets.burning import burnt
from fusenets.fires import Fire
from fusenets.nets import Net
from fusenets.ratios import Ratio
from odd import is_ratio

ENDS = ["a" + letter for letter in "abcdefghijklmnopqrst"]
SIZES = list(range(100, 120))


def star():
    """A net whose fuses all begin at the node m."""
    return Net(["m"] + ENDS, [("m", end, size) for end, size in zip(ENDS, SIZES)])


def far(one, other):
    """The distance of two spots, each the number of a fuse and a distance from the middle."""
    if one[0] == other[0]:
        return abs(one[1] - other[1])
    return one[1] + other[1]


def answer(times, spot):
    """The time of a spot and the first light that gives it, from all its distances."""
    ways = [time + far((fuse, SIZES[fuse]), spot) for fuse, time in enumerate(times)]
    best = ways[0]
    for way in ways:
        best = way if way < best else best
    return best, [way == best for way in ways].index(True)


def drawn_times(random):
    """Times of the lights: equal ones, small ones, ones that differ much, and fractions."""
    return [[0] * 20, [-5] * 20, [random.randint(0, 3) for _ in SIZES], [random.randint(0, 9) for _ in SIZES],
            [random.randint(-300, 300) for _ in SIZES], [119 - size for size in range(20)], [size for size in range(20)],
            [Ratio(random.randint(0, 30), random.randint(1, 7)) for _ in SIZES], [0, 0] + [400] * 18, [-size for size in range(20)]]


class Star(unittest.TestCase):
    def check(self, times):
        fire = Fire(star(), [(end, time) for end, time in zip(ENDS, times)])
        spots = [("m", (0, 0))] + [(end, (fuse, SIZES[fuse])) for fuse, end in enumerate(ENDS)]
        for fuse, size in enumerate(SIZES):
            for distance in (1, size // 2, Ratio(size, 2), Ratio(1, 7), size - Ratio(1, 3), size - 1):
                spots.append(((fuse, distance), (fuse, distance)))
        for point, spot in spots:
            time, index = answer(times, spot)
            with self.subTest(times=times, point=point):
                told = Ratio(1) * time
                self.assertTrue(is_ratio(fire(point), told.top, told.bottom))
                self.assertEqual(fire.source(point), index)
                self.assertIs(type(fire.source(point)), int)
        self.assertEqual(fire.times(), {point: answer(times, spot)[0] for point, spot in spots[:21]})
        self.assertEqual(burnt(fire, fire.end()), sum(SIZES))
        for point in fire.last():
            self.assertEqual(fire(point), fire.end())

    def test_drawn_times(self):
        for seed in range(4):
            for times in drawn_times(Random(seed)):
                self.check(times)

    def test_other_order_of_lights(self):
        random = Random(9)
        for _ in range(20):
            order = random.sample(range(20), 20)
            times = [random.randint(0, 2) for _ in SIZES]
            fire = Fire(star(), [(ENDS[fuse], times[fuse]) for fuse in order])
            for fuse, end in enumerate(ENDS):
                gives = [times[other] + far((other, SIZES[other]), (fuse, SIZES[fuse])) == fire(end) for other in order]
                self.assertEqual(fire.source(end), gives.index(True))

    def test_soon_enough(self):
        random = Random(7)
        started = process_time()
        for _ in range(500):
            net = star()
            fire = Fire(net, [(end, random.randint(0, 3)) for end in ENDS])
            for node in net.nodes:
                fire(node)
                fire.source(node)
        self.assertLess(process_time() - started, 2)


if __name__ == "__main__":
    unittest.main()
