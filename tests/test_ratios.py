"""Ratios against Python's own fractions, and what Ratio and over raise."""

import unittest
from fractions import Fraction
from random import Random

from fusenets.errors import InvalidNumber
from fusenets.ratios import Ratio
from odd import is_ratio, odd_numbers, raised


def parts_of(random, digits=60):
    """A top and a bottom of both signs."""
    bound = 10 ** random.choice([1, 2, 5, 18, digits])
    return random.randint(-bound, bound), random.choice([-1, 1]) * random.randint(1, bound)


def numbers():
    """Tuples (number, the same as a Fraction): integers and Ratios of many sizes."""
    random = Random(4)
    rows = [(whole, Fraction(whole)) for whole in (0, 1, -1, 2, -7, 10 ** 60, -10 ** 60)]
    rows += [(Ratio(whole), Fraction(whole)) for whole in (0, 1, -1, 2, 10 ** 60)]
    for _ in range(40):
        top, bottom = parts_of(random)
        rows.append((Ratio(top, bottom), Fraction(top, bottom)))
        rows.append((Ratio(top % 7, 6), Fraction(top % 7, 6)))
    return rows


class Making(unittest.TestCase):
    def test_lowest_terms(self):
        for top, bottom, wanted in [(6, 3, (2, 1)), (-6, 4, (-3, 2)), (6, -4, (-3, 2)), (-6, -4, (3, 2)), (0, -5, (0, 1)),
                                    (0, 7, (0, 1)), (5, 1, (5, 1)), (10 ** 60, 10 ** 59, (10, 1))]:
            made = Ratio(top, bottom)
            self.assertEqual((made.top, made.bottom), wanted)
            self.assertIs(type(made.top), int)
            self.assertIs(type(made.bottom), int)

    def test_names_and_default(self):
        self.assertTrue(is_ratio(Ratio(4), 4))
        self.assertTrue(is_ratio(Ratio(top=4, bottom=6), 2, 3))
        self.assertTrue(is_ratio(Ratio(4, bottom=6), 2, 3))

    def test_wrong_parts(self):
        for value in odd_numbers() + [Ratio(1), Ratio(1, 2)]:
            for values in ((value,), (value, 1), (1, value), (value, 0), (value, None)):
                with self.assertRaises(InvalidNumber) as caught:
                    Ratio(*values)
                self.assertIs(caught.exception.value, value)

    def test_zero_below(self):
        self.assertEqual(raised(Ratio, 1, 0), ("InvalidNumber", {"value": 0}))
        self.assertEqual(raised(Ratio, 0, 0), ("InvalidNumber", {"value": 0}))
        self.assertEqual(raised(Ratio, "x", 0), ("InvalidNumber", {"value": "x"}))

    def test_never_changes(self):
        made = Ratio(1, 2)
        for name in ("top", "bottom"):
            with self.assertRaises(AttributeError):
                setattr(made, name, 3)
        again = made
        again += 1
        self.assertTrue(is_ratio(made, 1, 2))
        self.assertTrue(is_ratio(again, 3, 2))


class Signs(unittest.TestCase):
    def check(self, made, wanted):
        self.assertTrue(is_ratio(made, wanted.numerator, wanted.denominator), (made, wanted))

    def test_two_numbers(self):
        rows = numbers()
        for one, first in rows:
            for other, second in rows:
                if isinstance(one, int) and isinstance(other, int):
                    continue
                self.check(one + other, first + second)
                self.check(one - other, first - second)
                self.check(one * other, first * second)
                told = (one == other, one != other, one < other, one <= other, one > other, one >= other)
                wanted = (first == second, first != second, first < second, first <= second, first > second,
                          first >= second)
                self.assertEqual(told, wanted)
                self.assertTrue(all(answer is True or answer is False for answer in told))

    def test_one_number(self):
        for one, first in numbers():
            if isinstance(one, Ratio):
                self.check(-one, -first)
                self.check(abs(one), abs(first))
                self.assertEqual(bool(one), bool(first))
                self.assertEqual(one.floor(), first.numerator // first.denominator)
                self.assertIs(type(one.floor()), int)
                self.assertEqual((repr(one), str(one)), (str(first), str(first)))

    def test_over(self):
        rows = numbers()
        for one, first in rows:
            for other, second in rows:
                if isinstance(one, Ratio) and second:
                    self.check(one.over(other), first / second)
                    self.check(one.over(other=other), first / second)

    def test_floors(self):
        for top, bottom, floor in [(7, 2, 3), (-7, 2, -4), (7, -2, -4), (-1, 10 ** 60, -1), (1, 10 ** 60, 0), (4, 2, 2)]:
            self.assertEqual(Ratio(top, bottom).floor(), floor)

    def test_over_nothing(self):
        for value in odd_numbers() + [0, Ratio(0), Ratio(0, 5)]:
            with self.assertRaises(InvalidNumber) as caught:
                Ratio(1, 2).over(value)
            self.assertIs(caught.exception.value, value)

    def test_texts(self):
        self.assertEqual([str(Ratio(*parts)) for parts in [(1, 2), (-1, 2), (1, -2), (4, 2), (0, 9), (-3, 1)]],
                         ["1/2", "-1/2", "-1/2", "2", "0", "-3"])
        self.assertEqual(repr([Ratio(1, 2), Ratio(3)]), "[1/2, 3]")

    def test_truth(self):
        self.assertEqual([bool(Ratio(*parts)) for parts in [(0,), (0, 5), (1, 9), (-1, 9)]], [False, False, True, True])

    def test_equality_with_others(self):
        for value in [True, False, None, "1", "1/2", [], [1], (1, 2), {}, 1.0, 0.5, object(), b"1", Fraction(1)]:
            for ratio in (Ratio(1), Ratio(0), Ratio(1, 2)):
                self.assertFalse(ratio == value)
                self.assertTrue(ratio != value)
                self.assertFalse(value == ratio)
                self.assertTrue(value != ratio)

    def test_other_kinds_on_a_side(self):
        for value in [True, None, "1", [], 0.5]:
            for call in (lambda: Ratio(1) + value, lambda: value + Ratio(1), lambda: Ratio(1) - value,
                         lambda: value - Ratio(1), lambda: Ratio(1) * value, lambda: value * Ratio(1),
                         lambda: Ratio(1) < value, lambda: Ratio(1) <= value, lambda: Ratio(1) > value,
                         lambda: Ratio(1) >= value, lambda: value < Ratio(1), lambda: value <= Ratio(1)):
                self.assertRaises(TypeError, call)


if __name__ == "__main__":
    unittest.main()
