"""Burnt lengths, fronts and steps, against fire in a cut net."""

import unittest
from fractions import Fraction
from random import Random

from cutting import Cut, plain, random_lights, random_net
from fusenets.burning import burnt, fronts, steps, time_for
from fusenets.errors import InvalidNumber
from fusenets.fires import Fire
from fusenets.nets import Net
from fusenets.ratios import Ratio
from odd import is_ratio, odd_numbers, only_ratios

HALF = Fraction(1, 2)


def ratio(number):
    """A Fraction as a Ratio."""
    return Ratio(number.numerator, number.denominator)


def document_fire():
    """The fire of the document."""
    return Fire(Net(["a", "b", "c"], [("a", "b", 4), ("b", "c", 2)]), [("a", 0), ("c", 1)])


def drawn_fires(seed, number):
    """Tuples (fire, cut net, lights)."""
    random = Random(seed)
    for _ in range(number):
        nodes, fuses = random_net(random, *random.choice([(), (), (2, 2, 12)]))
        lights = random_lights(random, nodes, fuses, random.choice([1, 3, 20]))
        yield Fire(Net(nodes, fuses), lights), Cut(nodes, fuses, HALF), lights


class Known(unittest.TestCase):
    def test_kinds(self):
        fire = document_fire()
        self.assertTrue(is_ratio(burnt(fire, -5), 0))
        self.assertTrue(is_ratio(burnt(fire=fire, time=Ratio(1, 2)), 1, 2))
        self.assertIs(type(fronts(fire=fire, time=0)), int)
        self.assertTrue(is_ratio(time_for(fire=fire, length=1), 1))
        rows = list(steps(fire=fire))
        self.assertTrue(all(isinstance(step, tuple) and type(step[2]) is int for step in rows))
        self.assertTrue(all(only_ratios(step[:2]) and isinstance(step[1], Ratio) for step in rows))

    def test_document(self):
        fire = document_fire()
        self.assertEqual(list(steps(fire)), [(0, 0, 1), (1, 1, 2), (Ratio(7, 2), 6, 0)])
        self.assertEqual([burnt(fire, time) for time in (-1, 0, 1, 2, 3, Ratio(7, 2), 100)], [0, 0, 1, 3, 5, 6, 6])
        self.assertEqual([fronts(fire, time) for time in (-1, 0, Ratio(1, 2), 1, 3, Ratio(7, 2), 9)], [0, 1, 1, 2, 2, 0, 0])
        self.assertEqual([time_for(fire, length) for length in (Ratio(1, 2), 1, 3, 6, 7)],
                         [Ratio(1, 2), 1, 2, Ratio(7, 2), None])

    def test_yields(self):
        generator = steps(document_fire())
        self.assertIs(iter(generator), generator)
        self.assertEqual(next(generator), (0, 0, 1))

    def test_fronts_that_stay_as_many(self):
        # At the time 1 the front in the first fuse ends at b, where another one begins.
        fire = Fire(Net(["a", "b", "c"], [("a", "b", 1), ("b", "c", 1)]), [("a", 0)])
        self.assertEqual(list(steps(fire)), [(0, 0, 1), (2, 2, 0)])
        self.assertEqual([fronts(fire, time) for time in (0, 1, 2)], [1, 1, 0])

    def test_inside_and_pauses(self):
        fire = Fire(Net(["a", "b", "c", "d"], [("a", "b", 4), ("c", "d", 2)]), [((0, 1), 0), ("d", 10)])
        self.assertEqual(list(steps(fire)), [(0, 0, 2), (1, 2, 1), (3, 4, 0), (10, 4, 1), (12, 6, 0)])
        self.assertEqual([time_for(fire, length) for length in (2, 4, Ratio(17, 4), 6)], [1, 3, Ratio(41, 4), 12])
        self.assertEqual([burnt(fire, time) for time in (3, 7, 10, 11)], [4, 4, 4, 5])

    def test_without_fuses(self):
        fire = Fire(Net(["a"], []), [("a", 0)])
        self.assertEqual((burnt(fire, 5), fronts(fire, 0), list(steps(fire)), time_for(fire, 1)), (0, 0, [], None))

    def test_parts(self):
        fire = Fire(Net(["a", "b"], [("a", "a", 3), ("b", "b", 5)]), [("a", 0)])
        self.assertEqual((burnt(fire, 9), time_for(fire, 3), time_for(fire, Ratio(31, 10))), (3, Ratio(3, 2), None))
        self.assertEqual(list(steps(fire)), [(0, 0, 2), (Ratio(3, 2), 3, 0)])

    def test_thirty_digits(self):
        big = 10 ** 30
        fire = Fire(Net(["a", "b"], [("a", "b", Ratio(big, 7))]), [("a", Ratio(1, big)), ("b", 0)])
        self.assertEqual(burnt(fire, Ratio(2, big)), Ratio(3, big))
        self.assertEqual(time_for(fire, Ratio(3, big)), Ratio(2, big))
        self.assertEqual(time_for(fire, Ratio(1, 2 * big)), Ratio(1, 2 * big))
        self.assertEqual(burnt(fire, big), Ratio(big, 7))
        self.assertEqual(fronts(fire, Ratio(1, 3 * big)), 1)

    def test_wrong_values(self):
        fire, still = document_fire(), Fire(Net(["a"], []), [("a", 0)])
        for value in odd_numbers():
            for call in (burnt, fronts, time_for):
                for one in (fire, still):
                    with self.assertRaises(InvalidNumber) as caught:
                        call(one, value)
                    self.assertIs(caught.exception.value, value)
        for value in (0, -1, Ratio(0), Ratio(-1, 9)):
            with self.assertRaises(InvalidNumber) as caught:
                time_for(fire, value)
            self.assertIs(caught.exception.value, value)


class Drawn(unittest.TestCase):
    def test_burnt_and_fronts(self):
        for fire, cut, lights in drawn_fires(1, 60):
            for quarter in range(-16, 60, 3):
                time = Fraction(quarter, 4)
                self.assertEqual(plain(burnt(fire, ratio(time))), cut.burnt(lights, time))
                self.assertEqual(fronts(fire, ratio(time)), cut.fronts(lights, time))

    def test_steps(self):
        for fire, cut, lights in drawn_fires(2, 60):
            rows = []
            number = 0
            for half in range(-8, 60):
                time = Fraction(half, 2)
                now = cut.fronts(lights, time)
                if now != number:
                    rows.append((time, cut.burnt(lights, time), now))
                number = now
            self.assertEqual(plain(list(steps(fire))), rows)

    def test_time_for(self):
        for fire, cut, lights in drawn_fires(3, 60):
            most = plain(burnt(fire, 1000))
            self.assertIsNone(time_for(fire, ratio(most) + Ratio(1, 10 ** 9)))
            lengths = [most, most / 3, most / 7, *[plain(step[1]) for step in steps(fire)]]
            for length in [length for length in lengths if length > 0]:
                time = plain(time_for(fire, ratio(length)))
                self.assertEqual(cut.burnt(lights, time), length)
                self.assertLess(cut.burnt(lights, time - Fraction(1, 10 ** 9)), length)

    def test_nothing_is_changed(self):
        for fire, _, lights in drawn_fires(4, 5):
            before = (fire.lights, fire.times(), fire.net.fuses)
            list(steps(fire)), burnt(fire, 2), fronts(fire, 2), time_for(fire, 2)
            self.assertEqual((fire.lights, fire.times(), fire.net.fuses), before)


if __name__ == "__main__":
    unittest.main()
