"""Courses, against fire that goes tick by tick by the rules through a cut net."""

import unittest
from copy import deepcopy
from fractions import Fraction
from random import Random

from cutting import plain, random_lights, random_net, random_point
from fusenets.courses import Course
from fusenets.errors import InvalidFuse, InvalidPoint, InvalidRules
from fusenets.fires import Fire
from fusenets.nets import Net
from fusenets.ratios import Ratio
from odd import Strange, is_ratio, odd_numbers, odd_values, only_ratios, raised
from ticking import Ticking

PARTS = ("delays", "valves", "cuts", "triggers")


def three():
    """The net of the document."""
    return Net(["a", "b", "c"], [("a", "b", 4), ("b", "c", 2)])


def lit(*lights, net=None):
    """A fire in the net of the document, or in another one."""
    return Fire(three() if net is None else net, list(lights))


def shown(course):
    """The events of a course in short."""
    return [(str(time), kind, index) for time, kind, index in course.events()]


def random_rules(random, nodes, fuses, lights):
    """Rules with whole numbers, each part of them present or not."""
    rules = {}
    if random.random() < 0.5:
        rules["delays"] = {node: random.choice([0, 1, 1, 2, 5]) for node in nodes if random.random() < 0.5}
    if random.random() < 0.5:
        rules["valves"] = [(random.randrange(len(fuses)), random.randint(0, 1)) for _ in range(random.randint(0, 3))]
    places = [(fuse, at) for fuse, (_, _, length) in enumerate(fuses) for at in range(1, length)]
    random.shuffle(places)
    free = [place for place in places if place not in [point for point, _ in lights]]
    cuts = []
    if random.random() < 0.6:
        cuts = [(fuse, at, random.randint(-3, 12)) for fuse, at in free[:random.randint(1, 3)]]
        rules["cuts"] = cuts
    if random.random() < 0.6:
        rules["triggers"] = []
        for _ in range(random.randint(1, 3)):
            point = random_point(random, nodes, fuses)
            if point not in [cut[:2] for cut in cuts]:
                rules["triggers"].append((random.randrange(len(fuses)), point, random.choice([0, 0, 1, 3, 30])))
    return rules


class Known(unittest.TestCase):
    def test_document(self):
        course = Course(lit(("a", 0), ("c", 1)), cuts=[(0, 2, 1)])
        self.assertTrue(is_ratio(course((0, 2)), 2))
        self.assertTrue(is_ratio(course.burnt_out(0), 5))
        self.assertEqual(shown(course), [("0", "light", 0), ("0", "node", 0), ("1", "cut", 0), ("1", "light", 1), ("1", "node", 2),
                                         ("3", "fuse", 1), ("3", "node", 1), ("5", "fuse", 0)])

    def test_kinds(self):
        course = Course(lit(("a", 0)), delays={"b": Ratio(1, 2)}, triggers=[(0, "c", 1)])
        self.assertTrue(only_ratios([course("b"), course((1, Ratio(1, 3))), course.end(), course.burnt_out(1)]))
        self.assertTrue(only_ratios(course.times()))
        self.assertEqual(list(course.times()), ["a", "b", "c"])
        for time, kind, index in course.events():
            self.assertIsInstance(time, Ratio)
            self.assertIs(type(kind), str)
            self.assertIs(type(index), int)

    def test_delay(self):
        course = Course(lit(("a", 1)), delays={"b": 3, "a": Ratio(1, 2)})
        self.assertEqual(course.times(), {"a": 1, "b": Ratio(11, 2), "c": Ratio(21, 2)})
        self.assertEqual((course.burnt_out(0), course.end(), course((0, 1))), (Ratio(11, 2), Ratio(21, 2), Ratio(5, 2)))

    def test_light_at_a_burnt_node_has_no_effect(self):
        course = Course(lit(("a", 0), ("b", 5)), delays={"b": 10})
        self.assertEqual((course("c"), course.events()[-1][0]), (16, 16))
        self.assertIn((5, "light", 1), course.events())

    def test_delay_lets_other_fire_pass(self):
        net = Net(["a", "b", "c"], [("a", "b", 2), ("a", "c", 1), ("b", "c", 1)])
        course = Course(lit(("a", 0), net=net), delays={"b": 9, "c": 9})
        self.assertEqual(course.times(), {"a": 0, "b": 2, "c": 1})
        self.assertEqual((course.burnt_out(2), course.end()), (Ratio(11), 11))

    def test_valve(self):
        fire = lit(("b", 0))
        self.assertEqual(Course(fire, valves=[(0, 1)]).times(), {"a": None, "b": 0, "c": 2})
        self.assertEqual(Course(fire, valves=[(0, 0)]).times(), {"a": 4, "b": 0, "c": 2})
        closed = Course(fire, valves=[(0, 0), (0, 1), (1, 0), (0, 1)])
        self.assertEqual((closed.times(), closed.end(), closed.burnt_out(0)), ({"a": None, "b": 0, "c": None}, None, None))
        self.assertIsNone(closed((0, 3)))

    def test_valve_lets_fire_out(self):
        course = Course(lit(("a", 0), ("c", 0)), valves=[(0, 1)])
        self.assertEqual((course("b"), course.burnt_out(0), course((0, 3)), course.end()), (2, 4, 3, 4))

    def test_valve_keeps_no_inner_light(self):
        course = Course(lit(((0, 1), 0)), valves=[(0, 0), (0, 1)])
        self.assertEqual((course.times(), course.burnt_out(0)), ({"a": 1, "b": 3, "c": 5}, 3))

    def test_valves_of_a_loop(self):
        net = Net(["a"], [("a", "a", 3)])
        for valves, out, near in [([], Ratio(3, 2), 1), ([(0, 0)], 3, 2), ([(0, 1)], 3, 1), ([(0, 0), (0, 1)], None, None)]:
            course = Course(lit(("a", 0), net=net), valves=valves)
            self.assertEqual((course.burnt_out(0), course((0, 1))), (out, near))

    def test_cut_at_the_time_and_just_before(self):
        fire = lit(("a", 0))
        for time, end in [(2, 6), (Ratio(2 * 10 ** 30 - 1, 10 ** 30), None), (3, 6), (Ratio(2 * 10 ** 30 + 1, 10 ** 30), 6), (-9, None)]:
            course = Course(fire, cuts=[(0, 2, time)])
            self.assertEqual((course.end(), course((0, 2)), course((0, 3))), (end, 2, None if end is None else 3))
            self.assertEqual((time, "cut", 0) in course.events(), end is None)

    def test_cut_that_never_burns(self):
        course = Course(lit(("a", 0)), cuts=[(1, 1, 3), (0, 1, -1)])
        self.assertEqual(shown(course), [("-1", "cut", 1), ("0", "light", 0), ("0", "node", 0), ("3", "cut", 0)])
        self.assertEqual((course((1, 1)), course((0, 1)), course((0, 2))), (None, 1, None))

    def test_cut_stops_both_sides(self):
        course = Course(lit(("a", 0), ("b", 3)), cuts=[(0, 1, 0)])
        self.assertEqual((course((0, 1)), course((0, Ratio(1, 2))), course((0, Ratio(3, 2))), course.burnt_out(0)),
                         (1, Ratio(1, 2), Ratio(11, 2), 6))
        late = Course(lit(("a", 5), ("b", 0)), cuts=[(0, 3, -1)])
        self.assertEqual((late((0, 3)), late((0, 2)), late.burnt_out(0)), (1, 7, 8))
        still = Course(lit(("b", 0)), cuts=[(0, 1, 0)])
        self.assertEqual((still((0, 1)), still("a"), still.burnt_out(0)), (3, None, None))

    def test_trigger(self):
        net = Net(["a", "b", "c", "d"], [("a", "b", 4), ("c", "d", 2)])
        course = Course(lit(("a", 1), net=net), triggers=[(0, (1, 1), 3), (1, "d", 0)])
        self.assertEqual(course.times(), {"a": 1, "b": 5, "c": 9, "d": 9})
        self.assertEqual(shown(course)[-5:], [("8", "trigger", 0), ("9", "fuse", 1), ("9", "node", 2), ("9", "node", 3), ("9", "trigger", 1)])

    def test_trigger_too_late_to_matter(self):
        fire = lit(("a", 0))
        for point, wait in [("a", 0), ("b", 0), ("c", 2), ("c", 99), ((0, 4), 0), ((1, 1), 1)]:
            course = Course(fire, triggers=[(0, point, wait)])
            self.assertEqual((course.times(), course.end()), (fire.times(), 6))
            self.assertIn((4 + wait, "trigger", 0), course.events())

    def test_trigger_that_nothing_pulls(self):
        course = Course(lit(("a", 0)), valves=[(0, 0)], triggers=[(0, "c", 0)])
        self.assertEqual((shown(course), course.end()), ([("0", "light", 0), ("0", "node", 0)], None))

    def test_triggers_at_halves_of_halves(self):
        nodes = list("abcdefghijklmnopqrstu")
        fuses = [(node, node, 1) for node in nodes]
        triggers = [(index, (index + 1, Ratio(1, 3)), 0) for index in range(20)]
        course = Course(Fire(Net(nodes, fuses), [("a", 0)]), triggers=triggers)
        self.assertEqual(course.burnt_out(20), Ratio(21, 2))
        nodes, fuses = list("ab"), [("a", "b", 1)] * 21
        pulled = [(index, (index + 1, Ratio(1, 2)), 0) for index in range(20)]
        course = Course(Fire(Net(nodes, fuses), [("a", 0)]), triggers=pulled, valves=[(index, 0) for index in range(1, 21)])
        self.assertEqual((course.end(), course((20, Ratio(1, 2)))), (2, Ratio(3, 2)))

    def test_deep_halves(self):
        nodes = ["n" + letter for letter in "abcdefghijklmnopqrstu"]
        fuses = [(node, node, 1) for node in nodes]
        lights = [((0, Ratio(1, 2)), 0)] + [(node, Ratio(index, 2)) for index, node in enumerate(nodes) if index]
        lights = lights[:20]
        triggers = [(index, (index + 1, Ratio(1, 2)), 0) for index in range(20)]
        course = Course(Fire(Net(nodes, fuses), lights), triggers=triggers)
        out = Fraction(1, 2)
        for index in range(1, 20):
            start = Fraction(index, 2)
            middle = min(out, start + Fraction(1, 2))
            out = max((start + middle + Fraction(1, 2)) / 2, start, middle)
            self.assertEqual(plain(course.burnt_out(index)), out)

    def test_late_entry_moves_a_trigger(self):
        net = Net(["a", "b", "c"], [("a", "b", 10), ("c", "c", 2)])
        course = Course(lit(("a", 0), ("b", 7), net=net), triggers=[(0, "c", 0)])
        self.assertEqual((course.burnt_out(0), course("c"), course.end()), (Ratio(17, 2), Ratio(17, 2), Ratio(19, 2)))
        course = Course(lit(("a", 0), ("b", 7), net=net), delays={"b": 2}, triggers=[(0, "c", 0)])
        self.assertEqual((course.burnt_out(0), course("c")), (Ratio(19, 2), Ratio(19, 2)))

    def test_net_without_fuses(self):
        course = Course(Fire(Net(["a", "b"], []), [("a", 2)]), delays={"a": 1}, valves=[], cuts=(), triggers=[])
        self.assertEqual((course.times(), course.end(), shown(course)), ({"a": 2, "b": None}, None, [("2", "light", 0), ("2", "node", 0)]))
        self.assertEqual(Course(Fire(Net(["a"], []), [("a", 2)])).end(), 2)


class Wrong(unittest.TestCase):
    def check(self, part, *values, fire=None, **more):
        for value in values:
            with self.subTest(part=part, value=repr(value)), self.assertRaises(InvalidRules) as caught:
                Course(fire or lit(("a", 0), ((1, 1), 0)), **{part: value}, **more)
            self.assertEqual(vars(caught.exception), {"part": part})

    def test_delays(self):
        self.check("delays", *[value for value in odd_values() if value is not None and not isinstance(value, dict)], {"d": 1}, {"a": -1}, {"a": 0, "x": 1},
                   {"a": Ratio(-1, 9)}, [("a", 1)], {0: 1}, {None: 1}, {("a",): 1})
        self.check("delays", *[{"a": value} for value in odd_numbers()])

    def test_lists(self):
        for part in PARTS[1:]:
            self.check(part, *[value for value in odd_values() if not isinstance(value, (list, tuple))], None, "ab", {(0, 0): 1})
            self.check(part, *[value for value in odd_values() if isinstance(value, (list, tuple)) and len(value)])

    def test_valves(self):
        wrong = [(0,), (0, 1, 0), [0, 1], (2, 0), (-1, 0), (0, 2), (0, -1), (0, True), (False, 0), (0, Ratio(1)), (Ratio(0), 0), (0, "a"), 0]
        self.check("valves", *[[value] for value in wrong + odd_values()], *[((0, 0), value) for value in wrong])
        self.check("valves", [(0, 0)] * 21, ((0, 0),) * 21)
        self.assertEqual(Course(lit(("a", 0)), valves=((0, 1),) * 20).end(), 6)

    def test_cuts(self):
        wrong = [(0, 1), (0, 1, 1, 1), [0, 1, 1], (2, 1, 0), (-1, 1, 0), (True, 1, 0), (Ratio(0), 1, 0), (0, 0, 0), (0, 4, 0), (0, 5, 0),
                 (0, -1, 0), (1, 1, 0), (1, Ratio(2, 2), 5), 0, (0, True, 0)]
        self.check("cuts", *[[value] for value in wrong + odd_values()], *[((0, 1, 1), value) for value in wrong])
        self.check("cuts", *[[(0, value, 0)] for value in odd_numbers()], *[[(0, 1, value)] for value in odd_numbers()])
        self.check("cuts", [(0, 1, 1), (0, 2, 2), (0, Ratio(3, 3), 9)], [(0, 1, 1), (0, 1, 1)])
        many = [(0, Ratio(index, 9), 9) for index in range(1, 22)]
        self.check("cuts", many, tuple(many))
        self.assertEqual(Course(lit(("a", 0)), cuts=many[:20]).end(), 6)
        self.assertEqual(Course(lit(("a", 0)), cuts=[(1, 1, 5), (0, 1, 1)]).end(), 6)

    def test_triggers(self):
        wrong = [(0, "a"), (0, "a", 1, 1), [0, "a", 1], (2, "a", 1), (-1, "a", 1), (True, "a", 1), (0, "d", 1), (0, (0, 5), 1), (0, "a", -1),
                 (0, (0, 1), 1), (0, (0, Ratio(2, 2)), 0), (Ratio(0), "a", 1), 0]
        for value in wrong + odd_values():
            self.check("triggers", [value], ((0, "a", 0), value), cuts=[(0, 1, 1)])
        self.check("triggers", *[[(0, "a", value)] for value in odd_numbers()], *[[(0, value, 0)] for value in odd_values()])
        self.check("triggers", [(0, "a", 0)] * 21)
        self.assertEqual(Course(lit(("a", 0)), triggers=[(0, "a", 0)] * 20).end(), 6)
        self.assertEqual(Course(lit(("a", 0)), triggers=[(0, (0, 1), 0)]).end(), 6)

    def test_order(self):
        wrong = {"delays": {"a": -1}, "valves": [0], "cuts": [0], "triggers": [0]}
        fire = lit(("a", 0))
        for first in range(4):
            told = {part: wrong[part] for part in reversed(PARTS[first:])}
            self.assertEqual(raised(Course, fire, **told), ("InvalidRules", {"part": PARTS[first]}))

    def test_points_and_fuses(self):
        course = Course(lit(("a", 0)), valves=[(0, 0)])
        for value in odd_values() + ["d", (2, 0), (0, 5)]:
            with self.assertRaises(InvalidPoint) as caught:
                course(value)
            self.assertIs(caught.exception.value, value)
        for value in odd_values() + [2, -1, Ratio(0), "0"]:
            with self.assertRaises(InvalidFuse) as caught:
                course.burnt_out(value)
            self.assertIs(caught.exception.value, value)
        self.assertEqual((course(point="a"), Course(fire=lit(("a", 0))).burnt_out(fuse=0)), (0, 4))

    def test_rules_by_keyword_only(self):
        with self.assertRaises(TypeError):
            Course(lit(("a", 0)), {"a": 1})


class Kept(unittest.TestCase):
    def test_arguments_are_not_kept_or_changed(self):
        fire = lit(("a", 0))
        rules = {"delays": {"b": 1}, "valves": [(1, 1)], "cuts": [(1, 1, 9)], "triggers": [(0, (1, 2), 7)]}
        before = deepcopy(rules)
        course = Course(fire, **rules)
        told = [course.times(), course.events(), course.end(), course.burnt_out(0), course((1, 1))]
        self.assertEqual(rules, before)
        rules["delays"]["a"] = 9
        for part in PARTS[1:]:
            rules[part].append(rules[part][0])
        course.times().clear()
        course.events().clear()
        self.assertEqual([course.times(), course.events(), course.end(), course.burnt_out(0), course((1, 1))], told)

    def test_lists_and_tuples_alike(self):
        fire = lit(("a", 0), ("c", 1))
        rules = {"valves": [(1, 0)], "cuts": [(0, 3, 2)], "triggers": [(1, (0, 2), 1), (0, "b", 0)]}
        alike = {part: tuple(rows) for part, rows in rules.items()}
        self.assertEqual(Course(fire, **rules).events(), Course(fire, **alike).events())
        nothing = Course(fire, delays=None, valves=[], cuts=[], triggers=[])
        self.assertEqual(nothing.events(), Course(fire, delays={}).events())


class Drawn(unittest.TestCase):
    def check(self, nodes, fuses, lights, rules):
        part = Fraction(1, 2 ** (len(rules.get("triggers", [])) + 1))
        slow = Ticking(nodes, fuses, lights, part, **rules)
        course = Course(Fire(Net(nodes, fuses), lights), **rules)
        for spot in slow.cut.spots()[::3]:
            point = slow.cut.point(spot)
            if not isinstance(spot, str):
                point = (spot[0], Ratio(point[1].numerator, point[1].denominator))
            self.assertEqual(plain(course(point)), slow.time(slow.burnt.get(spot)))
        self.assertEqual(plain(course.times()), {node: slow.time(slow.burnt.get(node)) for node in nodes})
        self.assertEqual([plain(course.burnt_out(fuse)) for fuse in range(len(fuses))],
                         [slow.time(slow.out.get(fuse)) for fuse in range(len(fuses))])
        self.assertEqual(plain(course.end()), slow.end())
        self.assertEqual([plain(row) for row in course.events()], slow.events())

    def test_ticks(self):
        random = Random(1)
        for case in range(400):
            nodes, fuses = random_net(random, 5, 6, 4)
            lights = random_lights(random, nodes, fuses, 3)
            rules = random_rules(random, nodes, fuses, lights) if fuses else {}
            with self.subTest(case=case, fuses=fuses, lights=lights, rules=rules):
                self.check(nodes, fuses, lights, rules)

    def test_fractions(self):
        random = Random(5)
        for _ in range(100):
            nodes, fuses = random_net(random, 5, 6, 4)
            if not fuses:
                continue
            lights = random_lights(random, nodes, fuses)
            rules = random_rules(random, nodes, fuses, lights)
            places = [point for point, _ in lights]
            delays = {node: Ratio(random.randint(0, 9), 3) for node in rules.get("delays", {})}
            cuts = [(fuse, at - Ratio(1, 5), time + Ratio(1, 7)) for fuse, at, time in rules.get("cuts", []) if (fuse, at) not in places]
            triggers = [(fuse, point if isinstance(point, str) else (point[0], point[1] * Ratio(10, 11)), wait * Ratio(1, 13))
                        for fuse, point, wait in rules.get("triggers", [])]
            parts = {"delays": delays, "cuts": cuts, "triggers": triggers, "valves": rules.get("valves", [])}
            number = 3 * 5 * 7 * 11 * 13
            one = Course(Fire(Net(nodes, fuses), lights), **parts)
            other = Course(Fire(Net(nodes, fuses) * number, [(moved(point, number), time * number) for point, time in lights]),
                           **scaled(parts, number))
            self.assertEqual([(time * number, kind, index) for time, kind, index in one.events()], other.events())
            point = random_point(random, nodes, fuses)
            self.assertEqual(None if one(point) is None else one(point) * number, other(moved(point, number)))

    def test_without_rules(self):
        random = Random(2)
        for _ in range(60):
            nodes, fuses = random_net(random)
            fire = Fire(Net(nodes, fuses), random_lights(random, nodes, fuses))
            course = Course(fire)
            self.assertEqual((course.times(), course.end()), (fire.times(), fire.end()))
            for _ in range(5):
                point = random_point(random, nodes, fuses)
                self.assertEqual(course(point), fire(point))

    def test_scaled(self):
        random = Random(3)
        for _ in range(60):
            nodes, fuses = random_net(random, 5, 6, 4)
            if fuses:
                lights = random_lights(random, nodes, fuses)
                rules = random_rules(random, nodes, fuses, lights)
                number = Ratio(random.randint(1, 10 ** 30), random.randint(1, 10 ** 30))
                one = Course(Fire(Net(nodes, fuses), lights), **rules)
                other = Course(Fire(Net(nodes, fuses) * number, [(moved(point, number), time * number) for point, time in lights]),
                               **scaled(rules, number))
                self.assertEqual([(time * number, kind, index) for time, kind, index in one.events()], other.events())

    def test_largest(self):
        random = Random(4)
        nodes = ["n" + letter for letter in "abcdefghijklmnopqrstuvwxyz"] + list("abcd")
        fuses = [(nodes[index - 1], nodes[index], random.randint(2, 9)) for index in range(1, 30)]
        fuses += [(random.choice(nodes), random.choice(nodes), random.randint(2, 9)) for _ in range(11)]
        lights = [(random.choice(nodes), random.randint(0, 9)) for _ in range(20)]
        cuts = [(fuse, 1, random.randint(0, 20)) for fuse in range(20)]
        course = Course(Fire(Net(nodes, fuses), lights), delays={node: random.randint(0, 3) for node in nodes}, cuts=cuts,
                        valves=[(random.randrange(40), 0) for _ in range(20)],
                        triggers=[(random.randrange(40), random.choice(nodes), random.randint(0, 3)) for _ in range(20)])
        self.assertEqual(len([row for row in course.events() if row[1] == "light"]), 20)
        self.assertEqual(course.events(), sorted(course.events(), key=lambda row: (plain(row[0]), row[1], row[2])))


def moved(point, number):
    """A point of a net that is multiplied by a number."""
    return point if isinstance(point, str) else (point[0], point[1] * number)


def scaled(rules, number):
    """Rules for a net that is multiplied by a number."""
    result = dict(rules)
    if rules.get("delays"):
        result["delays"] = {node: wait * number for node, wait in rules["delays"].items()}
    result["cuts"] = [(fuse, at * number, time * number) for fuse, at, time in rules.get("cuts", [])]
    result["triggers"] = [(fuse, moved(point, number), wait * number) for fuse, point, wait in rules.get("triggers", [])]
    return result


if __name__ == "__main__":
    unittest.main()
