"""Measuring, against a search that goes through all ways to light ends."""

import unittest
from copy import deepcopy
from fractions import Fraction
from itertools import product
from random import Random

from cutting import fraction, plain
from fusenets.errors import InvalidLengths, InvalidNumber
from fusenets.measuring import is_closed, measurable, plan, plan_time, states
from fusenets.ratios import Ratio
from odd import is_ratio, odd_numbers, odd_values, only_ratios, raised

SETS = [[60], [Ratio(1, 3)], [60, 60], [60, 30], [30, 60], [7, 11], [3, 2], [Ratio(7, 2), Ratio(5, 3)], [1, 4], [60, 60, 60], [60, 30, 15],
        [15, 60, 30], [7, 11, 13], [4, 4, 6], [1, 2, 3], [3, 1, 2], [Ratio(1, 2), Ratio(1, 3), Ratio(1, 7)], [10, 10, 5], [1, 1, 100],
        [Ratio(10 ** 40, 7), 10 ** 40, Ratio(1, 10 ** 40)]]


def burn(time, rests, lit):
    """The state at the next moment when so many ends of each timer burn, or None."""
    spans = [rest / number for rest, number in zip(rests, lit) if number]
    if not spans:
        return None
    span = min(spans)
    left = [rest - number * span for rest, number in zip(rests, lit)]
    return time + span, left, [number if rest else 0 for rest, number in zip(left, lit)]


def all_ways(timers):
    """Tuples (state, plan) of all ways to light ends, with the start and the empty plan."""
    found = []

    def go(time, rests, lit, steps):
        found.append(((time, tuple(zip(rests, lit))), steps))
        for more in product(*[range(3 - number) if rest else [0] for rest, number in zip(rests, lit)]):
            after = burn(time, rests, [number + one for number, one in zip(lit, more)])
            if after:
                go(*after, steps + [[index for index, number in enumerate(more) for _ in range(number)]])

    go(Fraction(0), [fraction(timer) for timer in timers], [0] * len(timers), [])
    return found


def odd_but_lists():
    """Values of many kinds, but no lists."""
    return [value for value in odd_values() if value.__class__ is not list]


def ends(steps):
    """How many ends a plan lights."""
    return sum(len(step) for step in steps)


class Known(unittest.TestCase):
    def test_document(self):
        self.assertEqual(([str(time) for time in measurable([60])], str(plan_time([60, 60], [[0, 0, 1], [1]]))), (["30", "60"], "45"))
        start, end, middle = (0, ((4, 0),)), (4, ((0, 0),)), (2, ((0, 0),))
        self.assertEqual((is_closed([4], [start, end, middle]), is_closed([4], [start, end])), (True, False))

    def test_one_timer(self):
        self.assertEqual(sorted(plain(states([4]))), [(0, ((4, 0),)), (2, ((0, 0),)), (4, ((0, 0),))])
        self.assertEqual((plan([4], 4), plan([4], 2), plan([4], 3)), ([[0]], [[0, 0]], None))

    def test_kinds(self):
        for timers in SETS:
            for time, rests in states(timers):
                self.assertIsInstance(time, Ratio)
                self.assertIs(rests.__class__, tuple)
                for timer in rests:
                    self.assertIs(timer.__class__, tuple)
                    self.assertTrue(isinstance(timer[0], Ratio) and timer[1].__class__ is int)
            self.assertTrue(only_ratios(measurable(timers)))
            self.assertTrue(all(isinstance(time, Ratio) for time in measurable(timers)))
        self.assertTrue(is_ratio(plan_time([3], [[0, 0]]), 3, 2))
        burnt_out = [rests[0] for time, rests in states([3]) if time > 0]
        self.assertTrue(all(is_ratio(rest, 0) and lit == 0 for rest, lit in burnt_out))

    def test_names_of_arguments(self):
        self.assertEqual(len(states(timers=[1])), 3)
        self.assertEqual(measurable(timers=[1]), [Ratio(1, 2), 1])
        self.assertEqual(plan(timers=[1], time=1), [[0]])
        self.assertEqual(plan_time(timers=[1], value=[[0]]), 1)
        self.assertTrue(is_closed(timers=[1], value=states([1])))

    def test_moments_at_once_are_one(self):
        self.assertEqual(plan_time([60, 60], [[0, 1]]), 60)
        self.assertIsNone(plan_time([60, 60], [[0, 1], []]))
        self.assertIsNone(plan_time([60, 60], [[0, 1], [1]]))
        self.assertEqual(plan_time([60, 30], [[0, 0, 1]]), 30)

    def test_steps_without_an_end(self):
        self.assertEqual(plan_time([60, 30], [[0, 1], []]), 60)
        self.assertEqual(plan_time([60, 30], [[0, 1], [0]]), 45)
        self.assertIsNone(plan_time([60, 30], [[0, 1], [], []]))
        self.assertIsNone(plan_time([60, 30], [[], [0]]))
        self.assertIsNone(plan_time([60, 30], [[1], []]))

    def test_fewest_ends(self):
        self.assertEqual(ends(plan([60, 60], 45)), 4)
        self.assertEqual(plan([60, 30], 30), [[1]])
        self.assertEqual(plan([30, 60], 30), [[0]])


class Searched(unittest.TestCase):
    def check(self, timers):
        """All answers for some timers."""
        ways = all_ways(timers)
        told = plain(states(timers))
        self.assertEqual(len(told), len(set(told)))
        self.assertEqual(set(told), {state for state, _ in ways})
        times = sorted({state[0] for state, _ in ways if state[0] > 0})
        self.assertEqual(plain(measurable(timers)), times)
        least = {}
        for (time, _), steps in ways:
            if steps:
                least[time] = min(least.get(time, 99), ends(steps))
        for time in times:
            steps = plan(timers, Ratio(time.numerator, time.denominator))
            self.assertEqual((plain(plan_time(timers, steps)), ends(steps)), (time, least[time]))
        for time in [0, -1, -times[0], times[-1] * 2, times[0] / 3] + [(one + other) / 2 for one, other in zip(times, times[1:])]:
            if time not in least:
                self.assertIsNone(plan(timers, Ratio(Fraction(time).numerator, Fraction(time).denominator)))

    def test_sets(self):
        for timers in SETS:
            with self.subTest(timers=timers):
                self.check(timers)

    def test_drawn(self):
        random = Random(17)
        for _ in range(12):
            self.check([Ratio(random.randint(1, 12), random.choice([1, 1, 2, 3])) for _ in range(random.randint(1, 3))])

    def test_all_plans(self):
        for timers in [[4, 6], [4, 4], [Ratio(1, 2), 3], [5, 7, 9]]:
            for (time, _), steps in all_ways(timers):
                self.assertEqual(plain(plan_time(timers, steps)), time if steps else None)

    def test_all_short_lists(self):
        timers = [4, 6]
        good = {str(steps): state[0] for state, steps in all_ways(timers) if steps}
        parts = [list(step) for number in range(4) for step in product([0, 1], repeat=number)]
        for number in range(4):
            for steps in product(parts, repeat=number):
                time = plan_time(timers, list(steps))
                self.assertEqual(plain(time), good.get(str(list(steps))))

    def test_scaled(self):
        factor = Ratio(10 ** 20 + 3, 10 ** 19 + 9)
        for timers in SETS:
            more = [factor * timer for timer in timers]
            self.assertEqual(measurable(more), [time * factor for time in measurable(timers)])
            for time in measurable(timers)[:10]:
                self.assertEqual(plan_time(more, plan(timers, time)), time * factor)


class Closed(unittest.TestCase):
    def test_all_states(self):
        random = Random(5)
        for timers in SETS:
            told = states(timers)
            random.shuffle(told)
            self.assertIs(is_closed(timers, told), True)
            self.assertIs(is_closed(timers, told + told[:3]), True)
            for index in range(len(told)) if len(told) < 40 else random.sample(range(len(told)), 8):
                self.assertIs(is_closed(timers, told[:index] + told[index + 1:]), False)

    def test_other_states(self):
        told = states([4, 6])
        self.assertTrue(is_closed([4, 6], told + [(9, ((0, 0), (0, 0)))]))
        self.assertTrue(is_closed([4, 6], told + [(-9, ((0, 0), (Ratio(0), 0)))]))
        self.assertFalse(is_closed([4, 6], told + [(9, ((1, 0), (0, 0)))]))
        more = [(9, ((1, 0), (0, 0))), (10, ((0, 0), (0, 0)))]
        self.assertFalse(is_closed([4, 6], told + more))
        self.assertTrue(is_closed([4, 6], told + more + [(Ratio(19, 2), ((0, 0), (0, 0)))]))
        self.assertFalse(is_closed([4, 6], told + [(Ratio(1, 3), ((Ratio(1, 7), 2), (0, 0)))]))
        self.assertTrue(is_closed([4, 6], told + [(Ratio(1, 3), ((Ratio(1, 7), 2), (0, 0))), (Ratio(17, 42), ((0, 0), (0, 0)))]))

    def test_forms_of_states_with_all_that_could_follow(self):
        more = [(Ratio(number, 2), ((0, 0),)) for number in range(-40, 40)]
        self.assertTrue(is_closed([4], states([4]) + more + [(9, ((2, 1),))]))
        for rest, lit in [(0, 1), (0, 2), (-1, 0), (-1, 1), (-2, 2), (Ratio(0), 1), (2, 3), (2, 4), (2, -1)]:
            self.assertFalse(is_closed([4], states([4]) + more + [(9, ((rest, lit),))]))

    def test_integers_and_ratios(self):
        self.assertTrue(is_closed([4], [(Ratio(0), ((Ratio(4), 0),)), (4, ((Ratio(0), 0),)), (Ratio(2), ((0, 0),))]))

    def test_other_timers(self):
        self.assertFalse(is_closed([4], states([5])))
        self.assertFalse(is_closed([4, 6], states([6, 4])))
        self.assertFalse(is_closed([4], states([4, 6])))
        self.assertFalse(is_closed([4], []))

    def test_other_values(self):
        told = states([4])
        self.assertTrue(is_closed([4], told))
        for value in odd_values() + [tuple(told), dict.fromkeys([0])]:
            self.assertIs(is_closed([4], value), False)
        for value in odd_values():
            self.assertIs(is_closed([4], told + [value]), False)
        for value in odd_numbers():
            for state in [(value, ((0, 0),)), (9, ((value, 0),)), (9, ((0, value),)), (9, ((value, value),)), (9, (value,)), (9, value)]:
                self.assertIs(is_closed([4], told + [state]), False)
        zero, one = (9, ((0, 0),)), (9, ((1, 1),))
        self.assertTrue(is_closed([4], told + [zero, one, (10, ((0, 0),)), (Ratio(19, 2), ((0, 0),))]))
        for state in [(9, ((0, 1),)), (9, ((0, 2),)), (9, ((Ratio(0), 1),)), (9, ((1, 3),)), (9, ((1, -1),)), (9, ((-1, 0),)), (9, ((1, Ratio(1)),)),
                      (9, ((0, Ratio(0)),)), (9, ((True, 1),)), (9, ((False, 0),)), (9, ((0, False),)), (True, ((0, 0),)), (False, ((4, 0),)),
                      (9, ((0, 0), (0, 0))), (9, ()), (9, [(0, 0)]), (9, ([0, 0],)), [9, ((0, 0),)], (9, ((0, 0),), 0), (9, ((0, 0, 0),))]:
            self.assertIs(is_closed([4], told + [state]), False, state)
        self.assertFalse(is_closed([1], [(False, ((True, 0),)), (True, ((False, 0),)), (Ratio(1, 2), ((0, 0),))]))


class Wrong(unittest.TestCase):
    def calls(self, timers):
        """All functions, with other arguments that are wrong, too."""
        return [(states, timers), (measurable, timers), (plan, timers, None), (plan_time, timers, None), (is_closed, timers, None)]

    def test_timers(self):
        for value in odd_but_lists() + [[], [[]], [None], (1,), [0], [0, 1], [-1], [1, Ratio(0)], [1, 2, 3, 4], [1, None], [True], [1.5], ["1"], [1, False]]:
            for call, *values in self.calls(value):
                told = raised(call, *values)
                self.assertEqual(told[0], "InvalidLengths")
                self.assertIs(told[1]["value"], value)

    def test_times(self):
        for value in odd_numbers():
            with self.assertRaises(InvalidNumber) as caught:
                plan([1], value)
            self.assertIs(caught.exception.value, value)
        self.assertRaises(InvalidLengths, plan, [], None)

    def test_plans(self):
        timers = [60, 30]
        for value in odd_values() + [([0],), [], [[]], [[], [0]], [[0], [1], []], [[0]] * 3, {0: [0]}]:
            self.assertIsNone(plan_time(timers, value))
        for step in odd_but_lists() + [(0,), [2], [-1], [True], [False], [Ratio(0)], [0, 0, 0], [1, 0], [0, 1, 0], [None], ["0"], [[0]], 0, {0: 0}]:
            self.assertIsNone(plan_time(timers, [step]))
            self.assertIsNone(plan_time(timers, [[0, 1], step]))
        self.assertEqual(plan_time(timers, [[0, 1], []]), 60)
        self.assertEqual(plan_time(timers, [[0], [1]]), 90)
        for steps in [[[0], [0]], [[0, 0], [0]], [[0], [1], [1]], [[0, 1, 1], [1]], [[0, 1], [0, 0]], [[0], [1], []]]:
            self.assertIsNone(plan_time(timers, steps))
        self.assertEqual(plan_time(timers, [[0, 1, 1], [0]]), Ratio(75, 2))

    def test_later_changes(self):
        timers, steps = [60, Ratio(30)], [[0, 1], [0]]
        value = states(timers)
        copies = deepcopy([[str(timer) for timer in timers], steps, len(value)])
        plan_time(timers, steps)
        plan(timers, 45)
        is_closed(timers, value)
        measurable(timers)
        self.assertEqual([[str(timer) for timer in timers], steps, len(value)], copies)
        found = plan(timers, 45)
        found[0].clear()
        found.clear()
        states(timers).clear()
        measurable(timers).clear()
        self.assertEqual((plan_time(timers, plan(timers, 45)), len(states(timers))), (45, copies[2]))


if __name__ == "__main__":
    unittest.main()
