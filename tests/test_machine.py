"""Machines: each point of their rules alone, and drawn ones against a run that goes step by step."""

import unittest
from copy import deepcopy
from fractions import Fraction
from random import Random

from cutting import plain
from fusenets.errors import InvalidLights, InvalidPoint, InvalidProgram
from fusenets.machine import Machine
from fusenets.nets import Net
from fusenets.ratios import Ratio
from odd import Strange, is_ratio, odd_numbers, odd_values, only_ratios, raised
from stepping import Stepping, TooCoarse, random_machine


def three():
    """The net of the document."""
    return Net(["a", "b", "c"], [("a", "b", 4), ("b", "c", 2)])


def machine(rules=(), lights=(("a", 0),), marks=(), net=None):
    """A machine, in the net of the document if no other is given."""
    return Machine(three() if net is None else net, list(marks), list(lights), list(rules))


def rule(event, *actions, condition=None):
    """A rule."""
    return (event, condition, list(actions))


def at(time, *actions, condition=None):
    """A rule for a moment."""
    return rule(("at", time), *actions, condition=condition)


def times(made):
    """The times of the nodes, in one list."""
    return list(made.times().values())


def kinds(made, *wanted):
    """The entries of some kinds, without their causes."""
    return [entry[:3] for entry in made.log() if entry[1] in wanted]


def results(made):
    """The tuples (time, rule, result) of all calls."""
    return [(time,) + what for time, kind, what, _ in made.log() if kind == "call"]


class Known(unittest.TestCase):
    def test_document(self):
        rules = [(("burn", "b"), None, [("let", "x", ("now",)), ("open", 1, 0)]), (("at", 0), None, [("close", 1, 0)])]
        made = Machine(three(), [], [("a", 1)], rules)
        self.assertEqual(made.log()[:6], [(0, "at", 0, None), (0, "call", (1, "done"), 0), (1, "light", 0, None), (1, "burn", "a", 2),
                                          (5, "burn", "b", 3), (5, "out", 0, 4)])
        self.assertEqual(made.log()[6:], [(5, "call", (0, "done"), 4), (7, "burn", "c", 6), (7, "out", 1, 7)])
        self.assertEqual((made.times(), made.variables()), ({"a": 1, "b": 5, "c": 7}, {"x": 5}))

    def test_kinds(self):
        made = machine([at(1, ("let", "y", 2), ("let", "x", 1), ("send", "s", 1)), rule(("signal", "s"))], [((0, 1), 0), ("c", 9)], [(0, 1)])
        for time, kind, what, cause in made.log():
            self.assertIsInstance(time, Ratio)
            self.assertIs(kind.__class__, str)
            self.assertTrue(cause is None or cause.__class__ is int)
            if kind in ("light", "out"):
                self.assertIs(what.__class__, int)
            if kind == "at":
                self.assertIsInstance(what, Ratio)
            if kind == "call":
                self.assertEqual([item.__class__ for item in what], [int, str])
        self.assertIsInstance(made.log()[1][2][1], Ratio)
        self.assertEqual((list(made.times()), list(made.variables())), (["a", "b", "c"], ["x", "y"]))
        self.assertTrue(only_ratios(made.times()) and only_ratios(made.variables()))
        self.assertTrue(all(isinstance(value, Ratio) for value in made.variables().values()))
        self.assertIs(made.is_rule(at(1)), True)
        self.assertIs(made.is_log(made.log()), True)

    def test_names_of_arguments(self):
        made = Machine(net=three(), marks=[(0, 1)], lights=[("a", 0)], rules=[])
        self.assertTrue(made.is_rule(value=at(0)) and made.is_log(value=made.log()))

    def test_without_rules(self):
        made = machine(lights=[("a", -1), ("c", 0)], marks=[(0, 2)])
        self.assertEqual(made.log(), [(-1, "light", 0, None), (-1, "burn", "a", 0), (0, "light", 1, None), (0, "burn", "c", 2), (1, "burn", (0, 2), 1),
                                      (2, "burn", "b", 3), (2, "out", 1, 5), (Ratio(5, 2), "out", 0, 5)])
        self.assertEqual((made.variables(), times(made)), ({}, [-1, 2, 0]))

    def test_net_without_fuses_and_nodes_that_never_burn(self):
        made = machine(net=Net(["a", "b"], []), lights=[("a", 3), ("a", 3), ("a", 4)])
        self.assertEqual(made.log(), [(3, "light", 0, None), (3, "light", 1, None), (3, "burn", "a", 0), (4, "light", 2, None)])
        self.assertEqual(times(made), [3, None])

    def test_loop(self):
        made = machine(net=Net(["a"], [("a", "a", 3)]), marks=[(0, 1)])
        self.assertEqual(made.log(), [(0, "light", 0, None), (0, "burn", "a", 0), (1, "burn", (0, 1), 1), (Ratio(3, 2), "out", 0, 2)])


class Gates(unittest.TestCase):
    def test_fire_waits_and_goes_on(self):
        made = machine([at(0, ("close", 1, 0)), at(9, ("open", 1, 0))], [("a", 1)])
        self.assertEqual(times(made), [1, 5, 11])
        self.assertEqual(made.log()[-4:], [(9, "at", 9, None), (9, "call", (1, "done"), 6), (11, "burn", "c", 7), (11, "out", 1, 8)])

    def test_closed_for_ever(self):
        made = machine([at(-1, ("close", 1, 0))])
        self.assertEqual((times(made), made.log()[-1][1:3]), ([0, 4, None], ("out", 0)))

    def test_closed_too_late(self):
        for time in (4, 5):
            self.assertEqual(times(machine([at(time, ("close", 1, 0))])), [0, 4, 6])
        self.assertEqual(times(machine([at(Ratio(39, 10), ("close", 1, 0))])), [0, 4, None])
        self.assertEqual(times(machine([rule(("burn", "b"), ("close", 1, 0))])), [0, 4, 6])

    def test_opened_before_the_fire_comes(self):
        self.assertEqual(times(machine([at(0, ("close", 1, 0)), at(2, ("open", 1, 0))])), [0, 4, 6])
        self.assertEqual(times(machine([at(0, ("close", 1, 0)), at(4, ("open", 1, 0))])), [0, 4, 6])

    def test_of_several_actions_on_one_gate_the_last_counts(self):
        self.assertEqual(times(machine([at(0, ("close", 1, 0)), at(9, ("open", 1, 0), ("close", 1, 0))])), [0, 4, None])
        self.assertEqual(times(machine([at(0, ("close", 1, 0)), at(9, ("close", 1, 0), ("open", 1, 0), ("open", 0, 0))])), [0, 4, 11])
        self.assertEqual(times(machine([at(0, ("open", 1, 0), ("close", 1, 0))])), [0, 4, None])

    def test_both_sides_of_a_loop(self):
        net = Net(["a"], [("a", "a", 4)])
        for shut, out in [([0], 4), ([1], 4), ([], 2)]:
            made = machine([at(-1, *[("close", 0, side) for side in shut])], net=net)
            self.assertEqual(kinds(made, "out"), [(out, "out", 0)])
        made = machine([at(-1, ("close", 0, 0), ("close", 0, 1)), at(5, ("open", 0, 1)), at(6, ("open", 0, 0))], net=net)
        self.assertEqual(kinds(made, "out"), [(Ratio(15, 2), "out", 0)])

    def test_it_may_come_out(self):
        made = machine([at(-1, ("close", 0, 1), ("close", 1, 0))])
        self.assertEqual(times(made), [0, 4, None])

    def test_closing_stops_no_fire_inside(self):
        made = machine([at(1, ("close", 0, 0), ("close", 0, 1))])
        self.assertEqual(times(made), [0, 4, 6])

    def test_opened_again_lets_nothing_more_in(self):
        made = machine([at(0, ("close", 1, 0)), at(5, ("open", 1, 0)), at(6, ("close", 1, 0)), at(8, ("open", 1, 0))])
        self.assertEqual((times(made), made.log()[-1]), ([0, 4, 7], (8, "call", (3, "done"), 12)))
        self.assertEqual([entry[3] for entry in made.log() if entry[1] == "burn"][-1], 7)

    def test_waits_at_marks_never(self):
        made = machine([at(-1, ("close", 0, 1))], marks=[(0, 2)])
        self.assertEqual(times(made), [0, 4, 6])

    def test_fire_that_waits_counts_for_a_burnt_fuse(self):
        net = Net(["a", "b"], [("a", "b", 4)])
        made = machine([at(-1, ("close", 0, 1)), at(2, ("open", 0, 1))], [("a", 0), ("b", 1)], net=net)
        self.assertEqual(made.log()[-1], (3, "out", 0, 7))
        self.assertEqual(made.log()[7][1], "call")
        made = machine([at(-1, ("close", 0, 1)), at(5, ("open", 0, 1))], [("a", 0), ("b", 1)], net=net)
        self.assertEqual([entry for entry in made.log() if entry[1] == "out"], [(4, "out", 0, 3)])


class Marks(unittest.TestCase):
    def test_cut_before_it_burns(self):
        made = machine([at(1, ("cut", (0, 2)))], marks=[(0, 2)])
        self.assertEqual((kinds(made, "burn"), kinds(made, "out")), ([(0, "burn", "a"), (2, "burn", (0, 2))], []))

    def test_cut_after_it_has_burnt(self):
        for time in (2, 3):
            self.assertEqual(times(machine([at(time, ("cut", (0, 2)))], marks=[(0, 2)])), [0, 4, 6])
        self.assertEqual(times(machine([rule(("burn", (0, 2)), ("cut", (0, 2)))], marks=[(0, 2)])), [0, 4, 6])
        self.assertEqual(times(machine([at(Ratio(19, 10), ("cut", (0, 2)))], marks=[(0, 2)])), [0, None, None])

    def test_cut_and_lit(self):
        made = machine([at(1, ("cut", (0, 2)), ("light", (0, 2), 0))], [("b", 9)], [(0, 2)])
        self.assertEqual(kinds(made, "burn"), [(1, "burn", (0, 2)), (9, "burn", "b"), (11, "burn", "c")])
        self.assertEqual(times(made), [None, 9, 11])
        made = machine([at(1, ("light", (0, 2), 0)), at(0, ("cut", (0, 2)))], [("b", 9)], [(0, 2)])
        self.assertEqual(times(made), [None, 9, 11])

    def test_no_fire_goes_back_from_a_cut_mark(self):
        made = machine([at(-1, ("cut", (0, 3)))], [("a", 0), ((0, 3), 1)], [(0, 3)])
        self.assertEqual((kinds(made, "burn"), kinds(made, "out")), ([(0, "burn", "a"), (1, "burn", (0, 3))], []))
        made = machine([], [("a", 0), ((0, 3), 1)], [(0, 3)])
        self.assertEqual(kinds(made, "out"), [(2, "out", 0), (4, "out", 1)])

    def test_burnt_out_from_both_sides_of_a_cut(self):
        made = machine([at(-1, ("cut", (0, 1)))], [("a", 0), ("b", 0)], [(0, 1)])
        self.assertEqual([entry for entry in made.log() if entry[1] == "out"], [(2, "out", 1, 7), (3, "out", 0, 5)])
        self.assertEqual([made.log()[index][1:3] for index in (4, 5, 7)], [("burn", "a"), ("burn", "b"), ("burn", "c")])

    def test_cut_twice(self):
        made = machine([at(0, ("cut", (0, 2)), ("cut", (0, Ratio(2)))), at(1, ("cut", (0, 2)))], marks=[(0, 2)])
        self.assertEqual(kinds(made, "burn")[-1], (2, "burn", (0, 2)))

    def test_order_of_points(self):
        marks = [(1, 1), (0, 3), (0, Ratio(5, 2)), (1, Ratio(1, 2))]
        made = machine(lights=[((1, 1), 0), ((0, 3), 0), ("c", 0), ((0, Ratio(5, 2)), 0), ("a", 0), ((1, Ratio(1, 2)), 0)], marks=marks)
        self.assertEqual([what for _, kind, what in kinds(made, "burn")][:6], ["a", "c", (0, Ratio(5, 2)), (0, 3), (1, Ratio(1, 2)), (1, 1)])
        self.assertEqual([cause for _, kind, _, cause in made.log() if kind == "burn"][:6], [4, 2, 3, 1, 5, 0])


class Lights(unittest.TestCase):
    def test_a_light_of_a_call_is_not_noted(self):
        made = machine([at(1, ("light", "c", 1))])
        self.assertEqual(kinds(made, "light"), [(0, "light", 0)])
        self.assertEqual(times(made), [0, 4, 2])
        self.assertEqual([entry for entry in made.log() if entry[2] == "c"], [(2, "burn", "c", 3)])

    def test_at_a_spot_that_has_burnt(self):
        made = machine([at(1, ("light", "a", 7), ("light", "b", 4)), at(5, ("light", "b", 1), ("light", "b", 0))])
        self.assertEqual(made.log()[-1][0], 6)
        self.assertEqual([entry[0] for entry in made.log() if entry[1] == "burn"], [0, 4, 6])

    def test_a_light_of_the_machine_there_is_noted(self):
        made = machine(lights=[("a", 0), ("b", 50)])
        self.assertEqual(made.log()[-1], (50, "light", 1, None))

    def test_at_this_moment_again(self):
        made = machine([rule(("burn", "a"), ("light", "c", 0)), rule(("burn", "c"), ("light", "b", 0))])
        self.assertEqual(made.log()[:6], [(0, "light", 0, None), (0, "burn", "a", 0), (0, "call", (0, "done"), 1), (0, "burn", "c", 2), (0, "call", (1, "done"), 3),
                                          (0, "burn", "b", 4)])
        self.assertEqual(made.log()[6:], [(1, "out", 1, 5), (2, "out", 0, 5)])

    def test_several_lights_at_one_spot(self):
        made = machine([at(-1, ("light", "b", 6), ("light", "b", 5)), at(-2, ("light", "b", 6))], [("a", 0), ("b", 4)])
        self.assertEqual([entry for entry in made.log() if entry[1:3] == ("burn", "b")], [(4, "burn", "b", 1)])
        self.assertEqual(made.log()[1][2], (1, "done"))

    def test_forms_of_spots(self):
        made = machine([at(1, ("light", (1, 2), 0)), rule(("burn", (0, 4)))])
        self.assertEqual((times(made), results(made)[-1]), ([0, 3, 1], (3, 1, "done")))


class Moments(unittest.TestCase):
    def test_at_once_for_each_time(self):
        made = machine([at(2), at(Ratio(4, 2)), at(-7), at(2, condition=("<", 1, 0))])
        self.assertEqual(kinds(made, "at"), [(-7, "at", -7), (2, "at", 2)])
        self.assertEqual(results(made), [(-7, 2, "done"), (2, 0, "done"), (2, 1, "done"), (2, 3, "idle")])

    def test_at_behind_all_fire(self):
        made = machine([at(100)])
        self.assertEqual(made.log()[-2:], [(100, "at", 100, None), (100, "call", (0, "done"), 6)])

    def test_order_at_one_moment(self):
        made = machine([rule(("signal", "t")), rule(("burn", "b")), rule(("out", 0)), at(4), at(0, ("send", "t", 4), ("send", "s", 4)), rule(("signal", "s"))],
                       [("b", 4), ("a", 0), ("c", 4)])
        self.assertEqual([entry[1:] for entry in made.log() if entry[0] == 4],
                         [("light", 0, None), ("light", 2, None), ("burn", "b", 1), ("burn", "c", 5), ("out", 0, 6), ("at", 4, None), ("signal", "t", 3),
                          ("signal", "s", 3), ("call", (1, "done"), 6), ("call", (2, "done"), 8), ("call", (3, "done"), 9), ("call", (0, "done"), 10),
                          ("call", (5, "done"), 11)])

    def test_calls_by_index_of_the_rule(self):
        made = machine([rule(("burn", "a")), rule(("burn", "c")), rule(("burn", "a"))], [("c", 0), ("a", 0)])
        self.assertEqual([entry[1:] for entry in made.log()[2:7]],
                         [("burn", "a", 1), ("burn", "c", 0), ("call", (0, "done"), 2), ("call", (2, "done"), 2), ("call", (1, "done"), 3)])

    def test_several_outs(self):
        net = Net(["a", "b"], [("b", "a", 2), ("a", "b", 2), ("a", "b", 2)])
        self.assertEqual([entry[1:] for entry in machine(net=net).log()[2:]], [("burn", "b", 1), ("out", 0, 2), ("out", 1, 2), ("out", 2, 2)])

    def test_fire_that_meets(self):
        made = machine(lights=[("a", 0), ("b", 1)], net=Net(["a", "b"], [("a", "b", 4)]))
        self.assertEqual(made.log()[-1], (Ratio(5, 2), "out", 0, 3))


class Signals(unittest.TestCase):
    def test_order_of_sending(self):
        made = machine([at(0, ("send", "z", 3), ("send", "b", 3)), at(1, ("send", "a", 2), ("send", "z", 2)), at(3, ("send", "c", 0))])
        self.assertEqual([what for _, _, what in kinds(made, "signal")], ["z", "b", "a", "z", "c"])
        self.assertEqual([entry[3] for entry in made.log() if entry[1] == "signal"], [3, 3, 5, 5, 11])

    def test_at_this_moment_again(self):
        made = machine([at(1, ("send", "s", 0), ("send", "s", 0)), rule(("signal", "s"), ("let", "x", ("+", ("get", "x"), 1)), ("send", "t", 0))])
        self.assertEqual([entry[1:] for entry in made.log()[2:12]],
                         [("at", 1, None), ("call", (0, "done"), 2), ("signal", "s", 3), ("signal", "s", 3), ("call", (1, "done"), 4), ("call", (1, "done"), 5),
                          ("signal", "t", 6), ("signal", "t", 7), ("burn", "b", 1), ("out", 0, 10)])
        self.assertEqual(made.variables(), {"x": 2})

    def test_nobody_watches(self):
        made = machine([at(1, ("send", "s", 99))])
        self.assertEqual(made.log()[-1], (100, "signal", "s", 3))


class Terms(unittest.TestCase):
    def test_values(self):
        for term, value in [(Ratio(1, 2), Ratio(1, 2)), (("now",), 3), (("get", "q"), 0), (("+", 1, 2), 3), (("-", 1, ("now",)), -2), (("*", Ratio(2, 3), 3), 2),
                            (("/", 1, ("now",)), Ratio(1, 3)), (("/", 0, 5), 0), (("/", -6, -4), Ratio(3, 2)), (("-", ("+", 1, 1), ("*", 2, ("/", 1, 2))), 1)]:
            made = machine([at(3, ("let", "x", term))])
            self.assertEqual(made.variables(), {"x": value})
            self.assertIsInstance(made.variables()["x"], Ratio)

    def test_later_terms_see_new_values(self):
        made = machine([at(1, ("let", "x", 2), ("let", "y", ("*", ("get", "x"), ("get", "x"))), ("let", "x", ("get", "y")), ("send", "s", ("get", "x")))])
        self.assertEqual((made.variables(), kinds(made, "signal")), ({"x": 4, "y": 4}, [(5, "signal", "s")]))

    def test_values_last(self):
        made = machine([at(1, ("let", "x", 2)), at(2, ("let", "y", ("get", "x")), ("let", "x", ("get", "z")))])
        self.assertEqual(made.variables(), {"x": 0, "y": 2})

    def test_conditions(self):
        for condition, result in [(None, "done"), (("<", 1, 2), "done"), (("<", 2, 2), "idle"), (("<=", 2, 2), "done"), (("<=", 3, 2), "idle"), (("==", ("now",), 3), "done"),
                                  (("==", 1, 2), "idle"), (("not", None), "idle"), (("not", ("<", 2, 1)), "done"), (("and", None, None), "done"),
                                  (("and", None, ("not", None)), "idle"), (("and", ("not", None), None), "idle"), (("and", ("not", None), ("not", None)), "idle"),
                                  (("and", ("<", 0, ("now",)), ("==", ("get", "x"), 0)), "done"), (("not", ("and", None, ("==", 0, 1))), "done")]:
            made = machine([at(3, ("let", "x", 1), condition=condition)])
            self.assertEqual((results(made), made.variables()), ([(3, 0, result)], {"x": 1} if result == "done" else {}))

    def test_idle_calls_evaluate_no_actions(self):
        made = machine([rule(("signal", "s"), ("let", "x", ("/", 1, 0)), condition=("not", None)), at(1, ("send", "s", 0), ("send", "s", 1))])
        self.assertEqual([row[1:] for row in results(made)], [(1, "done"), (0, "idle"), (0, "idle")])


class Faults(unittest.TestCase):
    def check(self, *actions, condition=None, fault=True):
        """One call is a fault, has no effect, and is the only one."""
        made = machine([rule(("signal", "s"), ("let", "x", 7), ("send", "u", 1), ("light", "c", 0), ("close", 0, 0), ("cut", (1, 1)), *actions, condition=condition),
                        at(-9, ("send", "s", 1), ("send", "s", 2), ("let", "y", 5))], marks=[(1, 1)])
        if fault:
            self.assertEqual(results(made), [(-9, 1, "done"), (-8, 0, "fault")])
            self.assertEqual((made.variables(), kinds(made, "signal"), times(made)), ({"y": 5}, [(-8, "signal", "s"), (-7, "signal", "s")], [0, 4, 6]))
        else:
            self.assertEqual(results(made), [(-9, 1, "done"), (-8, 0, "done"), (-7, 0, "done")])
            self.assertEqual((made.variables()["x"] == 7, times(made)), (True, [-8, None, -8]))

    def test_division_by_0(self):
        self.check(("let", "z", ("/", 1, 0)))
        self.check(("let", "z", ("/", 1, ("-", ("get", "x"), 7))))
        self.check(("send", "v", ("/", 0, 0)))
        self.check(("light", "b", ("+", 1, ("*", 0, ("/", 1, ("get", "q"))))))
        self.check(condition=("<", ("/", 1, 0), 1))

    def test_negative_times(self):
        self.check(("send", "v", -1))
        self.check(("send", "v", Ratio(-1, 10 ** 50)))
        self.check(("light", "b", ("-", 1, 2)))
        self.check(("light", "a", -1))
        self.check(("send", "v", 0), ("light", "a", 0), ("let", "z", -1), fault=False)

    def test_both_conditions_of_and_are_evaluated(self):
        bad = ("==", ("/", 1, 0), 1)
        for condition in [("and", ("not", None), bad), ("and", bad, ("not", None)), ("not", ("and", None, bad)), ("and", ("not", None), ("and", None, ("not", bad)))]:
            self.check(condition=condition)

    def test_thousand_digits(self):
        base = [("let", "l", 10 ** 50), ("let", "l", ("*", ("*", ("get", "l"), ("get", "l")), ("*", ("get", "l"), ("get", "l")))),
                ("let", "l", ("*", ("*", ("get", "l"), ("get", "l")), ("*", ("get", "l"), ("*", ("get", "l"), ("*", 10 ** 59, ("*", 10 ** 60, ("*", 10 ** 40, 10 ** 40)))))))]
        # l is now 10 ** (4 * 200 + 199) = 10 ** 999, which has 1000 digits.
        nines = ("+", ("get", "l"), ("-", ("get", "l"), 1))
        for last, result in [([], "done"), ([("let", "m", nines)], "done"), ([("let", "m", ("*", ("get", "l"), 9))], "done"), ([("let", "m", ("*", -9, ("get", "l")))], "done"),
                             ([("let", "m", ("/", 1, ("get", "l")))], "done"), ([("let", "m", ("/", ("-", ("get", "l"), 1), ("get", "l")))], "done"),
                             ([("let", "m", ("*", ("get", "l"), 10))], "fault"), ([("let", "m", ("*", -10, ("get", "l")))], "fault"),
                             ([("let", "m", ("/", ("/", 1, ("get", "l")), 10))], "fault"), ([("let", "m", ("/", ("/", 1, 10), ("get", "l")))], "fault"),
                             ([("let", "m", ("*", 0, ("*", ("get", "l"), 10)))], "fault"), ([("let", "m", ("*", 9, ("get", "l"))), ("let", "m", ("+", ("get", "m"), ("-", ("get", "l"), 1)))], "done"),
                             ([("let", "m", ("*", 9, ("get", "l"))), ("let", "m", ("+", ("get", "m"), ("get", "l")))], "fault"),
                             ([("let", "m", ("/", ("get", "l"), ("get", "l")))], "done"), ([("send", "s", ("*", ("get", "l"), 10))], "fault")]:
            made = machine([at(1, *base, *last)])
            self.assertEqual(results(made), [(1, 0, result)], last)
            if result == "done":
                self.assertEqual(made.variables()["l"], 10 ** 999)
            else:
                self.assertEqual(made.variables(), {})

    def test_numbers_and_moments_with_many_digits(self):
        for number, result in [(10 ** 1000 - 1, "done"), (10 ** 1000, "fault"), (-10 ** 1000 + 1, "done"), (-10 ** 1000, "fault"), (Ratio(1, 10 ** 1000 - 1), "done"),
                               (Ratio(1, 10 ** 1000), "fault")]:
            made = machine([at(1, ("let", "x", number))])
            self.assertEqual(results(made), [(1, 0, result)])
            for more in [("<", number, 0), ("not", ("==", 0, number))]:
                made = machine([at(1, condition=more)])
                self.assertEqual(results(made)[0][2] == "fault", result == "fault")
        made = machine([at(1, ("send", "s", 10 ** 1000 - 1)), rule(("signal", "s"), ("let", "x", ("now",))), rule(("signal", "s"), ("let", "y", 1))])
        self.assertEqual(([row[1:] for row in results(made)], made.variables(), made.log()[-1][0] == 10 ** 1000), ([(0, "done"), (1, "fault"), (2, "done")], {"y": 1}, True))

    def test_not_called_again(self):
        made = machine([rule(("signal", "s"), ("let", "x", ("/", 1, ("-", ("now",), 3)))), at(1, *[("send", "s", delay) for delay in (0, 1, 2, 3)])])
        self.assertEqual(results(made), [(1, 1, "done"), (1, 0, "done"), (2, 0, "done"), (3, 0, "fault")])
        self.assertEqual((made.variables(), len(kinds(made, "signal"))), ({"x": -1}, 4))

    def test_others_are_still_called(self):
        made = machine([rule(("burn", "b"), ("let", "x", ("/", 1, 0))), rule(("burn", "b"), ("let", "x", 1))])
        self.assertEqual((results(made), made.variables()), ([(4, 0, "fault"), (4, 1, "done")], {"x": 1}))


class Causes(unittest.TestCase):
    def test_least_of_lights_calls_and_entries(self):
        net = Net(["a", "b", "c"], [("a", "c", 2), ("b", "c", 1), ("c", "c", 9)])
        made = machine(net=net, lights=[("b", 1), ("c", 2), ("a", 0), ("c", 2)])
        self.assertEqual([entry for entry in made.log() if entry[1:3] == ("burn", "c")], [(2, "burn", "c", 1)])
        self.assertEqual(made.log()[1], (0, "burn", "a", 0))
        made = machine(net=net, lights=[("b", 1), ("a", 0)], rules=[at(-1, ("light", "c", 3))])
        self.assertEqual([entry for entry in made.log() if entry[1:3] == ("burn", "c")], [(2, "burn", "c", 1)])

    def test_the_call_that_opened_the_gate(self):
        made = machine([at(-1, ("close", 0, 0)), at(3, ("open", 0, 0))])
        opened = [index for index, entry in enumerate(made.log()) if entry[1:3] == ("call", (1, "done"))][0]
        self.assertEqual([entry for entry in made.log() if entry[1:3] == ("burn", "b")], [(7, "burn", "b", opened)])

    def test_the_mark_where_it_entered(self):
        made = machine(marks=[(0, 1), (0, 3)])
        self.assertEqual(made.log()[1:6], [(0, "burn", "a", 0), (1, "burn", (0, 1), 1), (3, "burn", (0, 3), 2), (4, "burn", "b", 3), (4, "out", 0, 4)])

    def test_out_also_by_parts_that_had_burnt(self):
        net = Net(["a", "b"], [("a", "b", 4), ("a", "b", 9)])
        made = machine(net=net)
        self.assertEqual(made.log()[1:], [(0, "burn", "a", 0), (4, "burn", "b", 1), (4, "out", 0, 2), (Ratio(13, 2), "out", 1, 2)])
        made = machine([at(-1, ("close", 0, 1), ("close", 1, 1))], net=net)
        self.assertEqual([entry[2:] for entry in made.log() if entry[1] == "out"], [(0, 3), (1, 3)])
        made = machine([at(-1, ("close", 0, 0)), at(2, ("open", 0, 0))], [((0, 1), 0)], [(0, 1)], net=Net(["a", "b"], [("a", "b", 4)]))
        self.assertEqual(made.log()[-1], (3, "out", 0, 7))
        self.assertEqual([made.log()[index][1:3] for index in (4, 6, 7)], [("burn", "a"), ("call", (1, "done")), ("burn", "b")])
        made = machine([at(-1, ("close", 0, 0), ("close", 0, 1)), at(2, ("open", 0, 0))], [((0, 1), 0)], [(0, 1)], net=Net(["a", "b"], [("a", "b", 4)]))
        self.assertEqual((made.log()[-1], made.log()[6][1:3]), ((3, "out", 0, 6), ("call", (1, "done"))))

    def test_calls_and_signals(self):
        made = machine([rule(("out", 0), ("send", "s", 1)), rule(("signal", "s"))])
        self.assertEqual(made.log()[2:7], [(4, "burn", "b", 1), (4, "out", 0, 2), (4, "call", (0, "done"), 3), (5, "signal", "s", 4), (5, "call", (1, "done"), 5)])


class Limits(unittest.TestCase):
    def counted(self, number):
        """A machine whose rule is called so many times."""
        return machine([rule(("signal", "s"), ("let", "x", ("+", ("get", "x"), 1)), ("send", "s", Ratio(1, 100)), condition=("<", ("get", "x"), number)),
                        at(-9, ("send", "s", 0))])

    def test_exactly_500_and_501(self):
        made = self.counted(498)
        self.assertEqual((len(results(made)), kinds(made, "limit"), made.variables(), results(made)[-1][1:]), (500, [], {"x": 498}, (0, "idle")))
        self.assertEqual(times(made), [0, 4, 6])
        for number in (499, 500, 10 ** 9):
            made = self.counted(number)
            self.assertEqual((len(results(made)), len(kinds(made, "limit")), made.variables()), (500, 1, {"x": 499}))
            time, kind, what, cause = made.log()[-1]
            self.assertEqual((time, kind, what, cause), (-9 + Ratio(499, 100), "limit", 500, len(made.log()) - 2))
            self.assertIs(what.__class__, int)
            self.assertEqual((made.log()[cause][1:3], times(made)), (("signal", "s"), [None, None, None]))

    def test_at_one_moment(self):
        made = machine([rule(("burn", "a"), ("send", "s", 0)), rule(("signal", "s"), ("send", "s", 0)), rule(("signal", "s"))])
        self.assertEqual((len(results(made)), made.log()[-1][:3], times(made)), (500, (0, "limit", 500), [0, None, None]))
        self.assertEqual(results(made)[-1][1:], (1, "done"))

    def test_faults_and_idle_calls_count(self):
        rules = [rule(("signal", "s"), ("let", "x", ("/", 1, 0)))] * 5 + [rule(("signal", "s"), condition=("not", None))] * 5 + [rule(("signal", "s"), ("send", "s", 1))]
        made = machine([at(-1, ("send", "s", 0))] + rules)
        self.assertEqual([result for _, _, result in results(made)].count("fault"), 5)
        self.assertEqual((len(results(made)), made.log()[-1][1]), (500, "limit"))
        self.assertEqual(len(kinds(made, "signal")), 1 + (500 - 12) // 6 + 1)

    def test_many_signals_soon(self):
        made = machine([rule(("signal", "s"), *[("send", "t", number) for number in range(9)], ("send", "s", Ratio(1, 7))), at(0, ("send", "s", 0))])
        self.assertEqual((len(results(made)), made.log()[-1][1]), (500, "limit"))


class Wrong(unittest.TestCase):
    def test_marks(self):
        wrong = odd_values() + [((0, 1),), {(0, 1): 1}, [(0, 1), (0, 1)], [(0, 1), (0, Ratio(1))], [(0, 0)], [(0, 4)], [(0, 5)], [(0, -1)], [(2, 1)], [(-1, 1)], ["a"], [("a", 1)],
                                [(0, 1, 2)], [[0, 1]], [(0, True)], [(False, 1)], [(Ratio(0), 1)], [(0, 1.5)], [(0, 1), None], [Strange()],
                                [(0, Ratio(number, 9)) for number in range(1, 22)]]
        for value in wrong:
            if value.__class__ is not list or value:
                told = raised(Machine, three(), value, None, None)
                self.assertEqual(told[0], "InvalidPoint")
                self.assertIs(told[1]["value"], value)
        Machine(three(), [(0, Ratio(number, 9)) for number in range(1, 21)], [((0, Ratio(1, 9)), 0)], [])

    def test_lights(self):
        for value in odd_values() + [[], (("a", 0),), {0: ("a", 0)}, [("a", 0)] * 21]:
            if value.__class__ is not list or len(value) in (0, 21):
                self.assertEqual(raised(Machine, three(), [], value, None), ("InvalidLights", {"index": None}))
        for value in odd_values() + ["a", ("a",), ["a", 0], ("a", 0, 0), ("d", 0), ((0, 1), 0), ((0, 3), 0), (("a",), 0), ((0, 5), 0)]:
            self.assertEqual(raised(Machine, three(), [(0, 2)], [value], None), ("InvalidLights", {"index": 0}))
            self.assertEqual(raised(Machine, three(), [(0, 2)], [("a", 0), ((0, 2), 0), value, None], None), ("InvalidLights", {"index": 2}))
        for value in odd_numbers():
            self.assertEqual(raised(Machine, three(), [], [("a", 0), ("a", value)], None), ("InvalidLights", {"index": 1}))
        for point in ["a", (0, 0), (0, 4), (1, 2), (0, 2), (0, Ratio(4, 2))]:
            Machine(three(), [(0, 2)], [(point, 0)] * 20, [])

    def test_order_of_errors(self):
        for values, error in [((None, None, None), InvalidPoint), (([], None, None), InvalidLights), (([], [("a", 0)], None), InvalidProgram),
                              (([], [("a", None)], [None]), InvalidLights)]:
            self.assertRaises(error, Machine, three(), *values)

    def refused(self, value):
        """The value is no rule."""
        made = machine(marks=[(0, 2)])
        self.assertIs(made.is_rule(value), False)
        self.assertEqual(raised(Machine, three(), [(0, 2)], [("a", 0)], [at(0), value, None]), ("InvalidProgram", {"index": 1}))

    def test_lists_of_rules(self):
        for value in odd_values() + [(at(0),), {0: at(0)}, [at(0)] * 21]:
            if value.__class__ is not list or len(value) == 21:
                self.assertEqual(raised(Machine, three(), [], [("a", 0)], value), ("InvalidProgram", {"index": None}))
        Machine(three(), [], [("a", 0)], [at(0)] * 20)

    def test_rules(self):
        for value in odd_values() + [list(at(0)), at(0)[:2], at(0) + (None,), (("at", 0), None, ()), (("at", 0), None, None), (("at", 0), None, {}),
                                     at(0, *[("let", "x", 1)] * 11), (("at", 0), [], []), (("at", 0), True, []), (("at", 0), 0, [])]:
            self.refused(value)
        self.assertTrue(machine().is_rule(at(0, *[("let", "x", 1)] * 10)))

    def test_events(self):
        for value in odd_values() + [("at",), ("at", 0, 0), ["at", 0], ("At", 0), ("burn",), ("burn", "d"), ("burn", (0, 1)), ("burn", (0, 5)), ("out", 2), ("out", -1),
                                     ("out", True), ("out", Ratio(0)), ("out", "a"), ("signal", ""), ("signal", "S"), ("signal", "abcdefghi"), ("signal", 0), ("now",), ("light", 0), ("light", "a"),
                                     ("Signal", "a"), ("", "a"), ("send", "a")]:
            self.refused((value, None, []))
        for value in odd_values()[:-1]:
            for kind in ("burn", "out", "at", "signal"):
                if not (kind == "at" and isinstance(value, Ratio)):
                    self.refused(((kind, value), None, []))
            self.refused(((value, 0), None, []))
        made = machine(marks=[(0, 2)])
        for event in [("at", 0), ("at", Ratio(-1, 2)), ("burn", "a"), ("burn", (0, 2)), ("burn", (0, Ratio(2))), ("burn", (1, 0)), ("burn", (1, 2)), ("out", 1), ("signal", "a")]:
            self.assertTrue(made.is_rule((event, None, [])))

    def test_terms(self):
        for value in odd_values() + [("now", 0), ("get",), ("get", "X"), ("get", ""), ("get", 1), ("get", "a", 0), ("+", 1), ("+", 1, 2, 3), ("+",), ["+", 1, 2], ("+", 1, None),
                                     ("+", None, 1), ("/", "1", 1), ("/", 1, True), ("neg", 1), ("Now",), (b"now",), ("+-", 1, 2), ("", 1, 2), ("<", 1, 2), ("and", None, None),
                                     ("**", 1, 2), (("now",),), ("+", ("get", "A"), 1)]:
            if not isinstance(value, Ratio):
                for action in [("let", "x", value), ("send", "s", value), ("light", "a", value), ("let", "x", ("+", 1, value)), ("let", "x", ("*", value, 1))]:
                    self.refused(at(0, action))
                for condition in [("<", value, 1), ("<=", 1, value), ("==", value, value), ("not", ("<", value, 1))]:
                    self.refused(at(0, condition=condition))
        for term in [0, -1, Ratio(1, 2), ("now",), ("get", "abcdefgh"), ("/", ("now",), ("-", 1, ("*", 2, 3)))]:
            self.assertTrue(machine().is_rule(at(0, ("let", "x", term), condition=("<", term, term))))

    def test_conditions(self):
        for value in odd_values() + [("<",), ("<", 1), ("<", 1, 2, 3), ["<", 1, 2], (">", 1, 2), ("!=", 1, 2), ("and",), ("and", None), ("and", None, None, None), ("not",),
                                     ("not", None, None), ("or", None, None), ("and", None, 1), ("and", 1, None), ("not", 1), ("not", True), ("now",), ("+", 1, 2), ("", 1, 2)]:
            if value is not None:
                for condition in [value, ("not", value), ("and", None, value), ("and", value, None)]:
                    self.refused(at(0, condition=condition))

    def test_actions(self):
        for value in odd_values() + [("let", "x"), ("let", "x", 1, 1), ["let", "x", 1], ("let", "X", 1), ("let", "", 1), ("let", 0, 1), ("send", "s"), ("send", "S", 1), ("send", 1, 1),
                                     ("light", "a"), ("light", "d", 0), ("light", (0, 1), 0), ("light", (0, 2)), ("light", "a", 0, 0), ("cut", (0, 1)), ("cut", "a"), ("cut", (0, 0)),
                                     ("cut", (0, 4)), ("cut", 0, 2), ("cut", [0, 2]), ("cut",), ("cut", (0, 2), 0), ("open", 0), ("open", 0, 2), ("open", 2, 0), ("open", -1, 0),
                                     ("open", 0, -1), ("open", 0, True), ("open", False, 0), ("open", Ratio(0), 0), ("open", (0, 0)), ("close", 0, "0"), ("close", 0, 0, 0), ("shut", 0, 0),
                                     ("close", None, 0), ("Let", "x", 1), (b"let", "x", 1), (("let",), "x", 1)]:
            self.refused(at(0, value))
            self.refused(at(0, ("let", "x", 1), value))
        for value in odd_values():
            for action in [("cut", value), ("open", value, 0), ("close", 0, value), ("light", value, 0), ("light", "a", value)]:
                if not (action[0] == "light" and isinstance(value, Ratio)):
                    self.refused(at(0, action))
        made = machine(marks=[(0, 2)])
        for action in [("let", "x", 1), ("send", "s", -1), ("light", (0, 2), 1), ("light", (1, 0), 1), ("cut", (0, 2)), ("cut", (0, Ratio(2))), ("open", 1, 1), ("close", 0, 0)]:
            self.assertTrue(made.is_rule(at(0, action)))

    def deep(self, number, last, wrap):
        """A value with so many tuples around the last one, itself not counted."""
        for _ in range(number):
            last = wrap(last)
        return last

    def test_depth(self):
        plus, other = (lambda term: ("+", term, 1)), (lambda term: ("/", 1, term))
        negated, joined = (lambda condition: ("not", condition)), (lambda condition: ("and", None, condition))
        made = machine()
        for number in (9, 10, 11, 5000):
            for wrap in (plus, other):
                for last, more in [(1, 0), (("now",), 1), (("get", "x"), 1)]:
                    term = self.deep(number - more, last, wrap)
                    self.assertIs(made.is_rule(at(0, ("let", "x", term))), number <= 10)
                    self.assertIs(made.is_rule(at(0, ("send", "s", term), ("light", "a", term))), number <= 10)
                    for condition in [("<", term, 1), ("==", 1, term)]:
                        self.assertIs(made.is_rule(at(0, condition=condition)), number <= 9)
            for wrap in (negated, joined):
                self.assertIs(made.is_rule(at(0, condition=self.deep(number, None, wrap))), number <= 10)
                self.assertIs(made.is_rule(at(0, condition=self.deep(number - 1, ("<", 1, 2), wrap))), number <= 10)
                self.assertIs(made.is_rule(at(0, condition=self.deep(number - 2, ("<", 1, ("now",)), wrap))), number <= 10)
        for number in (11, 50000):
            term, condition = self.deep(number, 1, plus), self.deep(number, None, negated)
            for bad in [at(0, ("let", "x", term)), at(0, condition=condition), at(0, condition=("<", 1, term)), (condition, None, []), (("at", term), None, []), at(0, condition)]:
                self.assertEqual(raised(Machine, three(), [], [("a", 0)], [at(0), bad]), ("InvalidProgram", {"index": 1}))
        deepest = at(0, ("let", "x", self.deep(10, 0, plus)), condition=self.deep(9, ("<", 1, 2), lambda condition: ("and", condition, condition)))
        self.assertEqual(machine([deepest]).variables(), {"x": 10})

    def test_wide_terms(self):
        term = 1
        for _ in range(10):
            term = ("+", term, term)
        self.assertEqual(machine([at(0, ("let", "x", term))]).variables(), {"x": 1024})
        for _ in range(40):
            term = ("+", term, term)
        self.assertFalse(machine().is_rule(at(0, ("let", "x", term))))


class Logs(unittest.TestCase):
    def setUp(self):
        self.made = machine([at(1, ("send", "s", 0), ("cut", (0, 2))), rule(("signal", "s"), ("send", "s", 1), condition=("<", ("now",), 3))], [("c", 0), ((0, 1), 1)],
                            [(0, 2), (0, 1)])
        self.log = self.made.log()

    def whole(self, value):
        """A value with integers for whole Ratios."""
        if isinstance(value, (list, tuple)):
            return value.__class__(map(self.whole, value))
        return value.top if isinstance(value, Ratio) and value.bottom == 1 else value

    def test_integers_for_ratios(self):
        self.assertTrue(self.made.is_log(self.log) and self.made.is_log(self.whole(self.log)))
        self.assertIs(self.whole(self.log)[0][0].__class__, int)

    def test_no_ratios_for_integers(self):
        for index, entry in enumerate(self.log):
            for place in (2, 3):
                if entry[place].__class__ is int:
                    changed = entry[:place] + (Ratio(entry[place]),) + entry[place + 1:]
                    self.assertFalse(self.made.is_log(self.log[:index] + [changed] + self.log[index + 1:]))
        changed = [(time, kind, (Ratio(what[0]), what[1]) if kind == "call" else what, cause) for time, kind, what, cause in self.log]
        self.assertFalse(self.made.is_log(changed))
        changed = [(time, kind, (Ratio(what[0]), what[1]) if isinstance(what, tuple) and kind == "burn" else what, cause) for time, kind, what, cause in self.log]
        self.assertFalse(self.made.is_log(changed))

    def test_one_thing_changed(self):
        for index, entry in enumerate(self.log):
            rest = self.log[:index] + self.log[index + 1:]
            wrong = [rest, self.log[:index] + [entry] + self.log[index:], self.log[:index] + [list(entry)] + self.log[index + 1:]]
            for place, value in enumerate(entry):
                for other in [None, "x", 77, Ratio(1, 7), (0, "x"), [value], (value,), True, False]:
                    if other is not value and not (value is None and other is None):
                        wrong.append(self.log[:index] + [entry[:place] + (other,) + entry[place + 1:]] + self.log[index + 1:])
            wrong.append(self.log[:index] + [entry[:3]] + self.log[index + 1:])
            wrong.append(self.log[:index] + [entry + (None,)] + self.log[index + 1:])
            if index:
                wrong.append(self.log[:index - 1] + [entry, self.log[index - 1]] + self.log[index + 1:])
            for value in wrong:
                self.assertIs(self.made.is_log(value), False)

    def test_other_values(self):
        for value in odd_values() + [tuple(self.log), self.log[:-1], self.log + [None], self.log + [self.log[-1]]]:
            self.assertIs(self.made.is_log(value), False)
        for value in odd_values():
            self.assertIs(self.made.is_log([value] + self.log[1:]), False)
            for place in range(4):
                entry = self.log[0][:place] + (value,) + self.log[0][place + 1:]
                if value is not None or place != 3:
                    self.assertIs(self.made.is_log([entry] + self.log[1:]), False)
        self.assertFalse(machine().is_log(self.log))

    def test_true_and_false(self):
        log = machine(lights=[("a", 0), ("a", 1)]).log()
        self.assertFalse(machine(lights=[("a", 0), ("a", 1)]).is_log([(False,) + log[0][1:]] + log[1:]))
        changed = [(time, kind, bool(what) if kind == "light" else what, cause) for time, kind, what, cause in log]
        self.assertFalse(machine(lights=[("a", 0), ("a", 1)]).is_log(changed))


class Equal(unittest.TestCase):
    def made(self, length=4, marks=((0, 1), (0, 2)), lights=(("a", 0),), rules=None):
        """A machine, by default always the same."""
        told = [rule(("burn", "b"), ("light", "c", 1), ("cut", (0, 1)), ("let", "x", ("+", 1, ("now",))), ("open", 0, 1), condition=("<", 1, 2)), at(2, ("send", "s", 0))]
        return Machine(Net(["a", "b", "c"], [("a", "b", length), ("b", "c", 2)]), list(marks), list(lights), told if rules is None else rules)

    def test_equal(self):
        self.assertTrue(self.made() == self.made())
        self.assertFalse(self.made() != self.made())
        other = [rule(("burn", (0, 4)), ("light", (1, 2), Ratio(1)), ("cut", (0, Ratio(1))), ("let", "x", ("+", Ratio(1), ("now",))), ("open", 0, 1), condition=("<", 1, Ratio(4, 2))),
                 at(Ratio(2), ("send", "s", 0))]
        self.assertTrue(self.made() == self.made(Ratio(8, 2), [(0, Ratio(1)), (0, Ratio(2))], [((0, 0), Ratio(0))], other))
        one = self.made()
        one.log()
        self.assertTrue(one == self.made())

    def test_not_equal(self):
        good = [rule(("burn", "b"), ("light", "c", 1), ("cut", (0, 1)), ("let", "x", ("+", 1, ("now",))), ("open", 0, 1), condition=("<", 1, 2)), at(2, ("send", "s", 0))]
        self.assertTrue(self.made() == self.made(rules=good))
        event, condition, actions = good[0]
        for rules in [[], good[:1], good[::-1], good + [at(3)], [(("burn", "a"), condition, actions), good[1]], [(event, None, actions), good[1]],
                      [(event, ("<=", 1, 2), actions), good[1]], [(event, condition, actions[:-1]), good[1]], [(event, condition, actions[::-1]), good[1]],
                      [(event, condition, [("light", "b", 1)] + actions[1:]), good[1]], [(event, condition, actions[:-1] + [("close", 0, 1)]), good[1]],
                      [(event, condition, actions[:1] + [("cut", (0, 2))] + actions[2:]), good[1]], [good[0], at(1, ("send", "s", 0))], [good[0], at(2, ("send", "t", 0))]]:
            self.assertFalse(self.made() == self.made(rules=rules))
            self.assertTrue(self.made() != self.made(rules=rules))
        for other in [self.made(5), self.made(marks=[(0, 1)], rules=[]), self.made(marks=[(0, 2), (0, 1)]), self.made(lights=[("a", 1)]), self.made(lights=[("b", 0)]),
                      self.made(lights=[("a", 0), ("a", 0)])]:
            self.assertFalse(self.made() == other)
        for value in odd_values():
            if not isinstance(value, Strange):
                self.assertFalse(self.made() == value)


class Later(unittest.TestCase):
    def test_what_is_passed_and_returned(self):
        marks, lights = [(0, 1)], [("a", 0), ((0, 1), 9)]
        rules = [rule(("burn", "b"), ("let", "x", ("now",)), ("light", "c", 1)), at(0, ("let", "y", 1))]
        copies = deepcopy((marks, lights, rules))
        made = Machine(three(), marks, lights, rules)
        other = Machine(three(), *deepcopy(copies))
        self.assertEqual((marks, lights, rules), copies)
        rules[0][2].clear()
        rules.clear()
        lights.clear()
        marks.clear()
        log = made.log()
        self.assertTrue(made == other and log == other.log())
        made.log().clear()
        made.times().clear()
        made.variables().clear()
        self.assertEqual((made.log(), made.times(), made.variables()), (log, {"a": 0, "b": 4, "c": 5}, {"x": 4, "y": 1}))
        self.assertTrue(made.is_log(log))

    def test_asked_again(self):
        value = at(0, ("let", "x", 1))
        made = machine([value])
        for _ in range(3):
            self.assertTrue(made.is_rule(value))
            self.assertEqual((len(made.log()), made.variables()), (8, {"x": 1}))


class Drawn(unittest.TestCase):
    def test_against_steps(self):
        done, found = 0, {}
        for seed in range(900):
            nodes, fuses, marks, lights, rules = random_machine(Random(seed))
            try:
                stepping = Stepping(nodes, fuses, marks, lights, rules, Fraction(1, 8))
            except TooCoarse:
                continue
            made = Machine(Net(nodes, fuses), marks, lights, rules)
            self.assertEqual(plain(made.log()), stepping.log, seed)
            self.assertEqual((plain(made.times()), plain(made.variables())), (stepping.times(), stepping.names))
            self.assertEqual(list(made.variables()), sorted(made.variables()))
            self.assertTrue(made.is_log(made.log()))
            done += 1
            for _, kind, what, _ in made.log():
                found[what[1] if kind == "call" else kind] = True
        self.assertGreater(done, 800)
        self.assertEqual(sorted(found), sorted(["light", "burn", "out", "at", "signal", "done", "idle", "fault", "limit"]))

    def test_with_fractions(self):
        for seed in range(200):
            random = Random(seed)
            nodes, fuses, marks, lights, rules = random_machine(random)
            number = Ratio(random.randint(1, 9), random.randint(2, 9))
            try:
                stepping = Stepping(nodes, [(one, other, number * length) for one, other, length in fuses], [(fuse, number * at) for fuse, at in marks],
                                    [(point if isinstance(point, str) else (point[0], number * point[1]), number * time) for point, time in lights], [], Fraction(number.top, number.bottom * 8))
            except TooCoarse:
                continue
            made = Machine(Net(nodes, fuses) * number, [(fuse, number * at) for fuse, at in marks],
                           [(point if isinstance(point, str) else (point[0], number * point[1]), number * time) for point, time in lights], [])
            self.assertEqual(plain(made.log()), stepping.log)


if __name__ == "__main__":
    unittest.main()
