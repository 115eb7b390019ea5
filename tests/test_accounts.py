"""Accounts, against reasons that are tried one by one, and against fire that goes tick by tick."""

import unittest
from copy import deepcopy
from fractions import Fraction
from itertools import permutations
from random import Random

from cutting import fraction, plain, random_lights, random_net
from fusenets.accounts import account, chain, check_account, reasons
from fusenets.courses import Course
from fusenets.errors import InvalidPoint, InvalidRules
from fusenets.fires import Fire
from fusenets.nets import Net
from fusenets.ratios import Ratio
from odd import odd_numbers, odd_values, raised
from test_courses import random_rules
from ticking import Ticking


class Rules:
    """The rules of [10] and the reasons of [17] in the words of the document, in Fractions."""

    def __init__(self, nodes, fuses, lights, rules):
        self.nodes, self.fuses = nodes, [(one, other, fraction(length)) for one, other, length in fuses]
        self.lights = [(self.point(point), fraction(time)) for point, time in lights]
        self.delays = {node: fraction(wait) for node, wait in (rules.get("delays") or {}).items()}
        self.valves = list(rules.get("valves", ()))
        self.cuts = {(fuse, fraction(at)): fraction(time) for fuse, at, time in rules.get("cuts", ())}
        self.triggers = [(fuse, self.point(point), fraction(wait)) for fuse, point, wait in rules.get("triggers", ())]
        places = {point for point, _ in self.lights} | set(self.cuts) | {point for _, point, _ in self.triggers}
        self.places = sorted([place for place in places if not isinstance(place, str)])
        self.spots = list(nodes) + self.places

    def point(self, point):
        """A point as it is returned, with a Fraction."""
        if isinstance(point, str):
            return point
        one, other, length = self.fuses[point[0]]
        at = fraction(point[1])
        return one if at == 0 else other if at == length else (point[0], at)

    def row(self, fuse):
        """The spots along a fuse with their distances, its ends included."""
        one, other, length = self.fuses[fuse]
        inside = [(place, place[1]) for place in self.places if place[0] == fuse]
        return [(one, Fraction(0))] + inside + [(other, length)]

    def enters(self, spot, time, fuse, side):
        """When fire enters a fuse at a spot that burns at a time; the side is that of a node, and None at a place."""
        if isinstance(spot, str):
            return None if (fuse, side) in self.valves else time + self.delays.get(spot, 0)
        if spot in self.cuts and time > self.cuts[spot]:
            return None
        return time

    def runs(self, times):
        """All (fuse, side, spot, time) of fire that comes to a spot on a fuse from the direction of a side."""
        found = []
        for fuse in range(len(self.fuses)):
            row = self.row(fuse)
            for (low, start), (high, end) in zip(row, row[1:]):
                for side, here, there in [(0, low, high), (1, high, low)]:
                    if here in times:
                        entry = self.enters(here, times[here], fuse, side)
                        if entry is not None:
                            found.append((fuse, side, there, entry + end - start))
        return found

    def burnt_out(self, times, fuse):
        """When a fuse is burnt out by the times of its spots, or None."""
        row = self.row(fuse)
        outs = []
        for (low, start), (high, end) in zip(row, row[1:]):
            entries = [self.enters(spot, times[spot], fuse, side) for side, spot in [(0, low), (1, high)] if spot in times]
            entries = sorted(entry for entry in entries if entry is not None)
            if not entries:
                return None
            out = entries[0] + end - start
            if len(entries) == 2 and entries[1] < out:
                out = (sum(entries) + end - start) / 2
            outs.append(out)
        return max(outs)

    def candidates(self):
        """All values with the form of a reason, in the order of reasons."""
        found = [("light", index) for index in range(len(self.lights))]
        found += [("trigger", index) for index in range(len(self.triggers))]
        return found + [("fuse", index, side) for index in range(len(self.fuses)) for side in (0, 1)]

    def is_reason(self, times, spot, reason):
        """Whether a reason holds for a spot with a time."""
        kind, index = reason[:2]
        if kind == "light":
            return 0 <= index < len(self.lights) and self.lights[index] == (spot, times[spot])
        if kind == "trigger":
            if not 0 <= index < len(self.triggers):
                return False
            fuse, point, wait = self.triggers[index]
            out = self.burnt_out(times, fuse)
            return point == spot and out is not None and out + wait == times[spot]
        return (index, reason[2], spot, times[spot]) in self.runs(times)

    def holds(self, value):
        """Whether entries with Fractions are an account that holds."""
        times = {spot: time for time, spot, _ in value}
        if len(times) < len(value) or any(spot not in self.spots for spot in times):
            return False
        if any(one[0] > other[0] for one, other in zip(value, value[1:])):
            return False
        if not all(self.is_reason(times, spot, reason) for _, spot, reason in value):
            return False
        reached = list(self.lights) + [(spot, time) for _, _, spot, time in self.runs(times)]
        for fuse, point, wait in self.triggers:
            out = self.burnt_out(times, fuse)
            if out is not None:
                reached.append((point, out + wait))
        return all(spot in times and times[spot] <= time for spot, time in reached)


def three():
    """The net of the document."""
    return Net(["a", "b", "c"], [("a", "b", 4), ("b", "c", 2)])


def drawn(random):
    """Nodes, fuses, lights and rules."""
    nodes, fuses = random_net(random, most_nodes=5, most_fuses=6)
    while not fuses:
        nodes, fuses = random_net(random, most_nodes=5, most_fuses=6)
    lights = random_lights(random, nodes, fuses, most=3)
    return nodes, fuses, lights, random_rules(random, nodes, fuses, lights)


def ways_to_spoil(random, told, rules):
    """Lists of entries with one thing changed."""
    found = []
    for index, (time, point, reason) in enumerate(told):
        rest, before, behind = told[:index] + told[index + 1:], told[:index], told[index + 1:]
        found.append(rest)
        found.append(before + [told[index]] + told[index:])
        found.append(told + [told[index]])
        found.extend(before + [(time + more, point, reason)] + behind for more in (1, -1, Fraction(1, 7), Fraction(1, 2), Fraction(-1, 2)))
        found.append(before + [(time, random.choice(rules.spots), reason)] + behind)
        found.append(before + [(time, (0, Fraction(1, 13)), reason)] + behind)
        found.append(before + [(time, point, random.choice(rules.candidates()))] + behind)
        found.append(before + [(time, point, (reason[0], reason[1] + 1) + reason[2:])] + behind)
        place = random.randrange(len(told))
        found.append(rest[:place] + [told[index]] + rest[place:])
    return found


def given(value):
    """A value with Ratios for Fractions, at any depth."""
    if isinstance(value, (list, tuple)):
        return value.__class__(map(given, value))
    return Ratio(value.numerator, value.denominator) if isinstance(value, Fraction) else value


class Known(unittest.TestCase):
    def setUp(self):
        self.fire = Fire(three(), [("a", 0)])
        self.course = Course(self.fire, triggers=[(0, "c", 1)])
        self.told = account(self.course)

    def test_document(self):
        self.assertEqual(self.told, [(0, "a", ("light", 0)), (4, "b", ("fuse", 0, 0)), (5, "c", ("trigger", 0))])
        self.assertIs(check_account(self.fire, self.told, triggers=[(0, "c", 1)]), True)
        self.assertIs(check_account(self.fire, self.told), False)
        self.assertIs(check_account(self.fire, [(0, "a", ("light", 0)), (4, "b", ("fuse", 0, 0)), (6, "c", ("fuse", 1, 0))]), True)

    def test_kinds(self):
        course = Course(Fire(three(), [((0, Ratio(1, 2)), 0)]))
        told = account(course)
        for time, point, reason in told:
            self.assertIsInstance(time, Ratio)
            self.assertTrue(isinstance(point, str) or isinstance(point[1], Ratio) and point[0].__class__ is int)
            self.assertTrue(all(item.__class__ is int for item in reason[1:]))
        self.assertEqual(told[0], (0, (0, Ratio(1, 2)), ("light", 0)))
        self.assertIsInstance(chain(course, "b")[0][1], Ratio)
        self.assertEqual(chain(course, "c"), [(0, Ratio(1, 2)), "b", "c"])

    def test_numbers_and_names_of_arguments(self):
        whole = [(0, "a", ("light", 0)), (4, "b", ("fuse", 0, 0)), (5, "c", ("trigger", 0))]
        self.assertTrue(check_account(fire=self.fire, value=whole, delays={}, valves=[], cuts=[], triggers=[(0, "c", 1)]))
        self.assertEqual(account(course=self.course), self.told)
        self.assertEqual(reasons(course=self.course, point="b"), [("fuse", 0, 0)])
        self.assertEqual(chain(course=self.course, point="c"), ["c"])

    def test_forms_of_a_point(self):
        fire = Fire(three(), [((0, 1), 0)])
        course = Course(fire)
        self.assertEqual(reasons(course, (0, Ratio(1))), reasons(course, (0, 1)))
        self.assertEqual(reasons(course, (0, 4)), [("fuse", 0, 0)])
        self.assertEqual(chain(course, (1, 0)), [(0, 1), "b"])
        told = [(0, (0, 1), ("light", 0)), (1, "a", ("fuse", 0, 1)), (3, "b", ("fuse", 0, 0)), (5, "c", ("fuse", 1, 0))]
        self.assertTrue(check_account(fire, told))
        for point in [(0, 0), (1, 0)]:
            self.assertFalse(check_account(fire, told[:1] + [(1, (0, 0), told[1][2])] + told[2:]), point)
        self.assertFalse(check_account(fire, told[:2] + [(3, (0, 4), ("fuse", 0, 0))] + told[3:]))

    def test_a_place_near_a_spot(self):
        fire = Fire(three(), [((0, Ratio(3, 10)), 0)])
        told = account(Course(fire))
        self.assertTrue(check_account(fire, told))
        for distance in [Ratio(1, 3), Ratio(1, 7), Ratio(301, 1000)]:
            self.assertFalse(check_account(fire, [(0, (0, distance), ("light", 0))] + told[1:]))

    def test_all_reasons_of_one_spot(self):
        net = Net(["a", "b"], [("a", "b", 2), ("b", "a", 2), ("b", "b", 4), ("a", "b", 1), ("b", "b", 2)])
        lights = [("a", 0), ("b", 2), ("b", 2), ((2, 1), 1), ((4, 1), 1)]
        rules = {"triggers": [(0, "b", 0), (3, "b", 1), (1, "b", 0)], "valves": [(3, 0)]}
        course = Course(Fire(net, lights), **rules)
        self.assertEqual(reasons(course, "b"), [("light", 1), ("light", 2), ("trigger", 0), ("trigger", 2), ("fuse", 0, 0), ("fuse", 1, 1),
                                                ("fuse", 2, 1), ("fuse", 4, 0), ("fuse", 4, 1)])

    def test_delay_counts_as_a_way(self):
        course = Course(self.fire, delays={"b": 3})
        self.assertEqual(account(course)[-1], (9, "c", ("fuse", 1, 0)))

    def test_cut_burnt_before_at_and_after_its_time(self):
        for time, number in [(1, 2), (Ratio(199, 100), 2), (2, 4), (3, 4)]:
            course = Course(self.fire, cuts=[(0, 2, time)])
            told = account(course)
            self.assertEqual(told[1], (2, (0, 2), ("fuse", 0, 0)))
            self.assertEqual(len(told), number)
            self.assertTrue(check_account(self.fire, told, cuts=[(0, 2, time)]))
            self.assertEqual(check_account(self.fire, told, cuts=[(0, 2, 1)]), number == 2)

    def test_trigger_on_its_own_fuse_and_in_another_part_of_the_net(self):
        net = Net(["a", "b", "x", "y"], [("a", "b", 4), ("x", "y", 6)])
        course = Course(Fire(net, [("a", 0)]), triggers=[(0, (1, 2), 1), (1, (0, 3), 0), (1, "y", 0)])
        self.assertEqual([(str(time), str(point), reason) for time, point, reason in account(course)],
                         [("0", "a", ("light", 0)), ("3", "(0, 3)", ("fuse", 0, 0)), ("4", "b", ("fuse", 0, 0)),
                          ("5", "(1, 2)", ("trigger", 0)), ("7", "x", ("fuse", 1, 1)), ("9", "y", ("trigger", 2))])
        self.assertEqual(reasons(course, "y"), [("trigger", 2), ("fuse", 1, 0)])
        self.assertEqual((chain(course, "x"), chain(course, "y")), ([(1, 2), "x"], ["y"]))

    def test_trigger_before_fuse(self):
        course = Course(Fire(Net(["a", "b"], [("a", "b", 4)]), [("a", 0)]), triggers=[(0, "b", 0)])
        self.assertEqual((account(course)[-1], reasons(course, "b")), ((4, "b", ("trigger", 0)), [("trigger", 0), ("fuse", 0, 0)]))
        self.assertEqual(chain(course, "b"), ["b"])

    def test_net_without_fuses(self):
        fire = Fire(Net(["a", "b"], []), [("b", 2), ("b", 1), ("b", 1)])
        course = Course(fire)
        self.assertEqual((account(course), reasons(course, "b"), reasons(course, "a")), ([(1, "b", ("light", 1))], [("light", 1), ("light", 2)], []))
        self.assertTrue(check_account(fire, [(1, "b", ("light", 2))]))
        self.assertFalse(check_account(fire, [(2, "b", ("light", 0))]))
        self.assertFalse(check_account(fire, []))


class Wrong(unittest.TestCase):
    def test_no_spots(self):
        course = Course(Fire(three(), [("a", 0), ((1, 1), 5)]), cuts=[(0, 2, 1)])
        for ask in (reasons, chain):
            for value in odd_values() + [(0, 1), (1, Ratio(1, 2)), (0, Ratio(1, 10 ** 9)), (2, 1), (0, 5), "d"]:
                with self.assertRaises(InvalidPoint) as caught:
                    ask(course, value)
                self.assertIs(caught.exception.value, value)

    def test_spots_that_do_not_burn(self):
        net = Net(["a", "b", "c"], [("a", "b", 4)])
        course = Course(Fire(net, [("a", 0)]), cuts=[(0, 2, 1), (0, 3, 9)])
        for point in ["b", "c", (0, 3), (0, 4)]:
            self.assertEqual(reasons(course, point), [])
            self.assertEqual(raised(chain, course, point), ("InvalidPoint", {"value": point}))
        self.assertEqual(chain(course, (0, Ratio(2))), ["a", (0, 2)])

    def test_values_that_are_no_accounts(self):
        fire = Fire(three(), [("a", 0)])
        good = account(Course(fire))
        self.assertTrue(check_account(fire, good))
        for value in odd_values() + [tuple(good), good + [None], {0: good[0]}]:
            self.assertIs(check_account(fire, value), False)
        for value in odd_values():
            for index in range(3):
                self.assertIs(check_account(fire, good[:index] + [value] + good[index + 1:]), False)
                for place in range(3):
                    if not (place == 1 and isinstance(value, str) and value == good[index][1]):
                        entry = good[index][:place] + (value,) + good[index][place + 1:]
                        self.assertIs(check_account(fire, good[:index] + [entry] + good[index + 1:]), False)
        for value in odd_numbers():
            for reason in [("light", value), ("fuse", value, 0), ("fuse", 0, value), (value, 0), (value,), ("light", 0, value)]:
                self.assertIs(check_account(fire, good[:1] + [(4, "b", reason)] + good[2:]), False)
        for reason in [("light",), ("fuse", 0), ("fuse", 0, False), ("fuse", Ratio(0), 0), ("fuse", -2, 0), ["fuse", 0, 0], ("fuse", 0, 0, 0)]:
            self.assertIs(check_account(fire, good[:1] + [(4, "b", reason)] + good[2:]), False)
        for entry in [(4, "b"), [4, "b", ("fuse", 0, 0)], (4, "b", ("fuse", 0, 0), 0), (False, "a", ("light", 0))]:
            self.assertIs(check_account(fire, good[:1] + [entry] + good[2:]), False)
            self.assertIs(check_account(fire, [entry] + good[1:]), False)

    def test_rules(self):
        fire = Fire(three(), [("a", 0)])
        wrong = {"delays": {"z": 1}, "valves": [(9, 0)], "cuts": [(0, 0, 0)], "triggers": [(0, "z", 0)]}
        names = list(wrong)
        for index, name in enumerate(names):
            told = {other: wrong[other] for other in names[index:]}
            self.assertEqual(raised(check_account, fire, None, **told), ("InvalidRules", {"part": name}))
            self.assertEqual(raised(check_account, fire, None, **told), raised(Course, fire, **told))
        with self.assertRaises(TypeError):
            check_account(fire, [], {})

    def test_later_changes(self):
        rules = {"delays": {"b": 1}, "valves": [(0, 1)], "cuts": [(0, 2, 5)], "triggers": [(0, "c", 1)]}
        fire = Fire(three(), [("a", 0)])
        course = Course(fire, **rules)
        before, copy = deepcopy(rules), account(course)
        first = account(course)
        self.assertTrue(check_account(fire, first, **rules))
        self.assertEqual((rules, first), (before, copy))
        first.pop()
        reasons(course, "b").clear()
        chain(course, "b").clear()
        self.assertEqual((account(course), reasons(course, "b"), chain(course, "b")[-1]), (copy, [("fuse", 0, 0)], "b"))
        self.assertEqual(course.times(), Course(fire, **rules).times())


class Drawn(unittest.TestCase):
    def setUp(self):
        random = Random(15)
        self.random = random
        self.cases = []
        for _ in range(150):
            nodes, fuses, lights, rules = drawn(random)
            fire = Fire(Net(nodes, fuses), lights)
            self.cases.append((nodes, fuses, lights, rules, fire, Course(fire, **rules), Rules(nodes, fuses, lights, rules)))

    def test_entries(self):
        for nodes, fuses, lights, rules, fire, course, known in self.cases:
            told = plain(account(course))
            times = {spot: fraction(course(given(spot))) for spot in known.spots if course(given(spot)) is not None}
            rows = sorted((times[spot], known.spots.index(spot)) for spot in times)
            self.assertEqual([(time, point) for time, point, _ in told], [(time, known.spots[index]) for time, index in rows])
            self.assertTrue(known.holds(told))
            for _, point, reason in told:
                self.assertEqual(reason, reasons(course, given(point))[0])

    def test_times_against_ticks(self):
        done = 0
        for nodes, fuses, lights, rules, fire, course, known in self.cases:
            try:
                ticking = Ticking(nodes, fuses, lights, Fraction(1, 4), **rules)
            except AssertionError:
                continue
            wanted = {spot: ticking.time(ticking.burnt[ticking.cut.spot(spot)]) for spot in known.spots if ticking.cut.spot(spot) in ticking.burnt}
            self.assertEqual({point: time for time, point, _ in plain(account(course))}, wanted)
            done += 1
        self.assertGreater(done, 80)

    def test_reasons(self):
        for nodes, fuses, lights, rules, fire, course, known in self.cases:
            times = {point: time for time, point, _ in plain(account(course))}
            for spot in known.spots:
                wanted = [reason for reason in known.candidates() if spot in times and known.is_reason(times, spot, reason)]
                self.assertEqual(reasons(course, given(spot)), wanted)

    def test_chains(self):
        for nodes, fuses, lights, rules, fire, course, known in self.cases:
            first = {point: (time, reason) for time, point, reason in plain(account(course))}
            for spot in known.spots:
                if spot not in first:
                    self.assertRaises(InvalidPoint, chain, course, given(spot))
                    continue
                points = plain(chain(course, given(spot)))
                self.assertEqual(points[-1], spot)
                self.assertIn(first[points[0]][1][0], ("light", "trigger"))
                for one, other in zip(points, points[1:]):
                    kind, fuse, side = first[other][1]
                    row = [place for place, _ in known.row(fuse)]
                    pairs = list(zip(row, row[1:])) if side == 0 else list(zip(row[1:], row))
                    self.assertIn((one, other), pairs)
                    self.assertLess(first[one][0], first[other][0])

    def test_checker_accepts(self):
        for nodes, fuses, lights, rules, fire, course, known in self.cases:
            told = account(course)
            self.assertIs(check_account(fire, told, **rules), True)
            other = [(time, point, self.random.choice(reasons(course, point))) for time, point, _ in told]
            self.assertIs(check_account(fire, other, **rules), True)
            ties = {}
            for entry in other:
                ties.setdefault(str(entry[0]), []).append(entry)
            moved = []
            for row in ties.values():
                moved.extend(self.random.sample(row, len(row)))
            self.assertIs(check_account(fire, moved, **rules), True)

    def test_checker_refuses(self):
        done = 0
        for nodes, fuses, lights, rules, fire, course, known in self.cases:
            told = plain(account(course))
            for value in ways_to_spoil(self.random, told, known):
                wanted = known.holds(value)
                self.assertIs(check_account(fire, given(value), **rules), wanted)
                self.assertLessEqual(wanted, sorted((str(time), str(point)) for time, point, _ in value)
                                     == sorted((str(time), str(point)) for time, point, _ in told))
                done += not wanted
            self.assertIs(check_account(fire, given(told), **rules), True)
        self.assertGreater(done, 3000)

    def test_other_rules(self):
        for (_, _, _, rules, fire, course, _), other in zip(self.cases, self.cases[1:]):
            for left_out in rules:
                less = {name: rules[name] for name in rules if name != left_out}
                wanted = {str(point): str(time) for time, point, _ in account(course)}
                same = wanted == {str(point): str(time) for time, point, _ in account(Course(fire, **less))}
                if check_account(fire, account(course), **less):
                    self.assertTrue(same)


class Orders(unittest.TestCase):
    def test_every_order_of_entries_with_one_time(self):
        net = Net(["a", "b", "c"], [("a", "b", 2), ("a", "c", 2), ("b", "c", 1)])
        fire = Fire(net, [("a", 0)])
        told = account(Course(fire))
        for order in permutations(range(3)):
            moved = [told[index] for index in order]
            self.assertEqual(check_account(fire, moved), moved[0] == told[0])

    def test_long_numbers(self):
        step = Ratio(10 ** 55 + 1, 10 ** 54 + 7)
        net = Net(["a", "b", "c"], [("a", "b", step), ("b", "c", step * 2)])
        fire = Fire(net, [("a", Ratio(1, 10 ** 50 + 9))])
        told = account(Course(fire, triggers=[(0, (1, step), Ratio(1, 3))]))
        self.assertTrue(check_account(fire, told, triggers=[(0, (1, step), Ratio(1, 3))]))
        self.assertFalse(check_account(fire, [(told[0][0] + Ratio(1, 10 ** 59),) + told[0][1:]] + told[1:], triggers=[(0, (1, step), Ratio(1, 3))]))


if __name__ == "__main__":
    unittest.main()
