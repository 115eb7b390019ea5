"""Single fuses, against nets that are made without the fuse, or with it at many lengths."""

import unittest
from random import Random

from cutting import random_lights, random_net
from fusenets.errors import InvalidFuse, InvalidNumber
from fusenets.fires import Fire
from fusenets.leaving import best_to_shorten, critical_length, end_by_length, superfluous, times_without
from fusenets.nets import Net
from fusenets.ratios import Ratio
from odd import is_ratio, odd_numbers, odd_values, only_ratios, raised

TINY = Ratio(1, 10 ** 9)


def three():
    """The fire of the document."""
    return Fire(Net(["a", "b", "c"], [("a", "b", 4), ("b", "c", 2)]), [("a", 0), ("c", 1)])


def without(fire, fuse):
    """The times of the nodes in a net that is made without a fuse."""
    fuses = fire.net.fuses
    lights = []
    for point, time in fire.lights:
        if isinstance(point, str):
            lights.append((point, time))
        elif point[0] != fuse:
            lights.append(((point[0] - (point[0] > fuse), point[1]), time))
    net = Net(fire.net.nodes, fuses[:fuse] + fuses[fuse + 1:])
    if not lights:
        return {node: None for node in net.nodes}
    return Fire(net, lights).times()


def with_length(fire, fuse, length):
    """The same fire where a fuse has another length."""
    fuses = fire.net.fuses
    one, other, _ = fuses[fuse]
    fuses[fuse] = (one, other, length)
    return Fire(Net(fire.net.nodes, fuses), fire.lights)


def is_lit(fire, fuse):
    """Whether a light is strictly inside a fuse."""
    return any(not isinstance(point, str) and point[0] == fuse for point, _ in fire.lights)


def random_fire(random, most=4):
    """A drawn fire in a net with fuses."""
    nodes, fuses = random_net(random)
    while not fuses:
        nodes, fuses = random_net(random)
    return Fire(Net(nodes, fuses), random_lights(random, nodes, fuses, most))


class Without(unittest.TestCase):
    def test_known(self):
        fire = three()
        times = times_without(fire, 1)
        self.assertEqual(times, {"a": 0, "b": 4, "c": 1})
        self.assertTrue(only_ratios(times))
        self.assertEqual(list(times), ["a", "b", "c"])
        self.assertEqual(times_without(fire=fire, fuse=0), {"a": 0, "b": 3, "c": 1})

    def test_lights_inside_go_too(self):
        net = Net(["a", "b"], [("a", "b", 4), ("a", "a", 2)])
        fire = Fire(net, [((0, 1), 0), ((1, 1), 5)])
        self.assertEqual(times_without(fire, 0), {"a": 6, "b": None})
        self.assertEqual(times_without(fire, 1), {"a": 1, "b": 3})
        self.assertEqual(times_without(Fire(net, [((0, 1), 0)]), 0), {"a": None, "b": None})
        self.assertEqual(times_without(Fire(net, [((0, 4), 0)]), 0), {"a": None, "b": 0})

    def test_no_fuses(self):
        self.assertEqual(superfluous(Fire(Net(["a"], []), [("a", 0)])), [])

    def test_superfluous_known(self):
        self.assertEqual(superfluous(three()), [0])
        self.assertEqual(superfluous(fire=Fire(three().net, [("a", 0), ("c", 3)])), [1])
        net = Net(["a", "b"], [("a", "b", 2), ("a", "b", 2), ("a", "a", 1), ("b", "b", 5)])
        self.assertEqual(superfluous(Fire(net, [("a", 0)])), [0, 1, 2, 3])
        self.assertEqual(superfluous(Fire(net, [("a", 0), ((3, 1), 0)])), [0, 1, 2])
        self.assertEqual(superfluous(Fire(net, [("a", 0), ((3, 1), 2)])), [0, 1, 2, 3])

    def test_drawn(self):
        random = Random(1)
        for case in range(200):
            fire = random_fire(random)
            with self.subTest(case=case, fuses=fire.net.fuses, lights=fire.lights):
                same = []
                for fuse in range(len(fire.net)):
                    self.assertEqual(times_without(fire, fuse), without(fire, fuse))
                    same.append(without(fire, fuse) == fire.times())
                self.assertEqual(superfluous(fire), [fuse for fuse, is_same in enumerate(same) if is_same])
                self.assertTrue(all(type(fuse) is int for fuse in superfluous(fire)))


class Critical(unittest.TestCase):
    def test_known(self):
        self.assertTrue(is_ratio(critical_length(three(), 0), 3))
        self.assertTrue(is_ratio(critical_length(fire=three(), fuse=1), 3))

    def test_bridge_loop_and_dark_part(self):
        net = Net(["a", "b", "c", "d"], [("a", "b", 1), ("b", "b", 7), ("c", "d", 1), ("d", "d", 1)])
        fire = Fire(net, [("a", 0)])
        self.assertIsNone(critical_length(fire, 0))
        for fuse in (1, 2, 3):
            self.assertTrue(is_ratio(critical_length(fire, fuse), 0))

    def test_drawn(self):
        random = Random(2)
        for case in range(200):
            fire = random_fire(random)
            for fuse in range(len(fire.net)):
                if is_lit(fire, fuse):
                    continue
                with self.subTest(case=case, fuses=fire.net.fuses, lights=fire.lights, fuse=fuse):
                    times, least = without(fire, fuse), critical_length(fire, fuse)
                    if least is None:
                        for length in (TINY, 1, 1000):
                            self.assertNotEqual(with_length(fire, fuse, length).times(), times)
                        continue
                    for more in (0, TINY, 1, 1000):
                        if least + more > 0:
                            self.assertEqual(with_length(fire, fuse, least + more).times(), times)
                    for less in (TINY, least * Ratio(1, 2), least - TINY):
                        if least > 0:
                            self.assertNotEqual(with_length(fire, fuse, least - less).times(), times)

    def test_changes_exactly_if_shorter(self):
        random = Random(3)
        for _ in range(100):
            fire = random_fire(random)
            for fuse, (_, _, length) in enumerate(fire.net.fuses):
                if not is_lit(fire, fuse):
                    least = critical_length(fire, fuse)
                    self.assertEqual(fuse in superfluous(fire), least is not None and least <= length)


class Ends(unittest.TestCase):
    def check(self, fire, fuse):
        rows = end_by_length(fire, fuse)
        self.assertTrue(only_ratios([list(row) for row in rows]))
        self.assertEqual(rows[0][0], 0)
        lengths = [length for length, _, _ in rows]
        for index, (length, end, slope) in enumerate(rows):
            stop = lengths[index + 1] if index + 1 < len(rows) else length + 1000
            self.assertLess(length, stop)
            for part in (TINY, Ratio(1, 3), Ratio(1, 2), 1 - TINY, 1):
                at = length + (stop - length) * part
                self.assertEqual(with_length(fire, fuse, at).end(), end + (at - length) * slope)
            if length > 0:
                self.assertEqual(with_length(fire, fuse, length).end(), end)
                self.assertNotEqual(slope, rows[index - 1][2])

    def test_known(self):
        self.assertEqual(end_by_length(three(), 0), [(0, Ratio(3, 2), Ratio(1, 2))])
        self.assertTrue(all(isinstance(row, tuple) for row in end_by_length(three(), 0)))
        fire = Fire(Net(["a", "b"], [("a", "b", 4), ("a", "b", 10)]), [("a", 0)])
        self.assertEqual(end_by_length(fire=fire, fuse=0), [(0, 5, Ratio(1, 2))])
        self.assertEqual(end_by_length(fire, 1), [(0, 2, Ratio(1, 2))])
        bridge = Fire(Net(["a", "b"], [("a", "b", 4), ("a", "a", 6)]), [("a", 1)])
        self.assertEqual(end_by_length(bridge, 0), [(0, 4, 0), (3, 4, 1)])
        loop = Fire(Net(["a", "b"], [("a", "b", 3), ("b", "b", 1)]), [("a", 0)])
        self.assertEqual(end_by_length(loop, 1), [(0, 3, Ratio(1, 2))])

    def test_some_never_burn(self):
        fire = Fire(Net(["a", "b", "c"], [("a", "b", 4), ("c", "c", 1)]), [("a", 0)])
        self.assertIsNone(end_by_length(fire, 0))
        self.assertIsNone(end_by_length(fire, 1))
        self.assertIsNone(best_to_shorten(fire, 1))

    def test_drawn(self):
        random = Random(4)
        done = bent = 0
        for case in range(250):
            fire = random_fire(random)
            for fuse in range(len(fire.net)):
                if not is_lit(fire, fuse):
                    with self.subTest(case=case, fuses=fire.net.fuses, lights=fire.lights, fuse=fuse):
                        if fire.end() is None:
                            self.assertIsNone(end_by_length(fire, fuse))
                        else:
                            self.check(fire, fuse)
                            done += 1
                            bent += len(end_by_length(fire, fuse)) > 2
        self.assertGreater(done, 300)
        self.assertGreater(bent, 20)

    def test_largest(self):
        random = Random(5)
        nodes = ["n" + letter for letter in "abcdefghijklmnopqrstuvwxyz"] + list("abcd")
        fuses = [(nodes[random.randrange(index)], nodes[index], Ratio(random.randint(1, 99), random.randint(1, 99))) for index in range(1, 30)]
        fuses += [(random.choice(nodes), random.choice(nodes), random.randint(1, 9)) for _ in range(11)]
        fire = Fire(Net(nodes, fuses), [(random.choice(nodes), random.randint(0, 9)) for _ in range(20)])
        for fuse in (0, 20, 39):
            self.check(fire, fuse)
        self.assertIsNotNone(best_to_shorten(fire, Ratio(1, 7)))
        self.assertEqual(superfluous(fire), [fuse for fuse in range(40) if without(fire, fuse) == fire.times()])


class Shortening(unittest.TestCase):
    def test_known(self):
        fuse, end = best_to_shorten(three(), 1)
        self.assertTrue(type(fuse) is int and is_ratio(end, 3))
        self.assertEqual(best_to_shorten(fire=three(), amount=Ratio(3, 2)), (0, Ratio(11, 4)))
        self.assertEqual(best_to_shorten(three(), 2)[0], 0)
        self.assertIsNone(best_to_shorten(three(), 4))
        net = Net(["a", "b"], [("a", "b", 3), ("a", "b", 9)])
        self.assertEqual(best_to_shorten(Fire(net, [("a", 0), ((1, 4), 0)]), 1)[0], 0)
        self.assertIsNone(best_to_shorten(Fire(net, [((0, 1), 0), ((1, 4), 0)]), 1))
        self.assertIsNone(best_to_shorten(Fire(Net(["a"], []), [("a", 0)]), 1))

    def test_drawn(self):
        random = Random(6)
        for case in range(200):
            fire = random_fire(random)
            amount = random.choice([1, 2, Ratio(1, 2), Ratio(1, 3)])
            best = None
            for fuse, (_, _, length) in enumerate(fire.net.fuses):
                if fire.end() is not None and length > amount and not is_lit(fire, fuse):
                    end = with_length(fire, fuse, length - amount).end()
                    if best is None or end < best[1]:
                        best = (fuse, end)
            with self.subTest(case=case, fuses=fire.net.fuses, lights=fire.lights, amount=amount):
                self.assertEqual(best_to_shorten(fire, amount), best)


class Wrong(unittest.TestCase):
    def test_no_index(self):
        for value in odd_values() + [2, -1, Ratio(0), Ratio(1), "0", 10 ** 30]:
            for call in (times_without, critical_length, end_by_length):
                with self.subTest(call=call.__name__, value=repr(value)), self.assertRaises(InvalidFuse) as caught:
                    call(three(), value)
                self.assertIs(caught.exception.value, value)

    def test_lit(self):
        fire = Fire(three().net, [((0, 1), 0), ((1, 0), 2), ((1, 2), 0)])
        for call in (critical_length, end_by_length):
            self.assertEqual(raised(call, fire, 0), ("InvalidFuse", {"value": 0}))
            self.assertIsNotNone(call(fire, 1))
        dark = Fire(Net(["a", "b", "c"], [("a", "b", 2)]), [((0, 1), 0)])
        self.assertEqual(raised(end_by_length, dark, 0), ("InvalidFuse", {"value": 0}))
        self.assertEqual(raised(end_by_length, dark, 1), ("InvalidFuse", {"value": 1}))

    def test_amounts(self):
        dark = Fire(Net(["a", "b"], []), [("a", 0)])
        for value in odd_numbers() + [0, -1, Ratio(-1, 2), Ratio(0)]:
            for fire in (three(), dark):
                with self.subTest(value=repr(value)), self.assertRaises(InvalidNumber) as caught:
                    best_to_shorten(fire, value)
                self.assertIs(caught.exception.value, value)


if __name__ == "__main__":
    unittest.main()
