"""The interface: names, arguments, and where each function, class and method is defined."""

import ast
import inspect
import unittest
from importlib import import_module
from pathlib import Path

PACKAGE = Path(__file__).resolve().parent.parent / "fusenets"

FUNCTIONS = {
    "burning": {"burnt": "(fire, time)", "fronts": "(fire, time)", "time_for": "(fire, length)", "steps": "(fire)"},
    "certificates": {"way_to": "(fire, point)", "way_sum": "(fire, point, way)", "labels_for": "(fire)",
                     "check_labels": "(fire, value)"},
    "centre": {"reach": "(net, point)", "reach_along": "(net, fuse)", "best_points": "(net)"},
    "trees": {"fewest": "(net, time)", "cover": "(net, time)", "apart": "(net, time)", "is_cover": "(net, time, value)",
              "is_apart": "(net, time, value)", "least_time": "(net, number)"},
    "leaving": {"times_without": "(fire, fuse)", "superfluous": "(fire)", "critical_length": "(fire, fuse)",
                "end_by_length": "(fire, fuse)", "best_to_shorten": "(fire, amount)"},
    "joining": {"joined": "(one, other, pairs)"},
    "watching": {"contradiction": "(net, observations)", "light_time": "(net, observations, point)",
                 "explaining": "(net, observations)", "suspects": "(net, observations)", "node_to_watch": "(net, observations)"},
    "texts": {"format_number": "(number)", "format_point": "(point)", "format_net": "(net)", "format_fire": "(fire)",
              "parse_number": "(text)", "parse_point": "(text)", "parse_net": "(text)", "parse_fire": "(text)"},
    "accounts": {"account": "(course)", "check_account": "(fire, value, *, delays=None, valves=(), cuts=(), triggers=())",
                 "reasons": "(course, point)", "chain": "(course, point)"},
    "measuring": {"states": "(timers)", "measurable": "(timers)", "plan": "(timers, time)", "plan_time": "(timers, value)",
                  "is_closed": "(timers, value)"},
    "guarding": {"guard": "(fire, node, prices=None)", "flow": "(fire, node, prices=None)",
                 "guard_price": "(fire, node, value, prices=None)", "flow_amount": "(fire, node, value, prices=None)"},
    "simplifying": {"table": "(net, keep)", "agree": "(net, other, keep)", "simplified": "(net, keep)",
                    "after_steps": "(net, keep, value)", "derivation": "(net, keep)"},
    "journals": {"check_number": "(number, text)", "recover": "(text)"},
}

CLASSES = {
    ("ratios", "Ratio"): ("(top, bottom=1)", ["top", "bottom"], {"over": "(self, other)", "floor": "(self)"}),
    ("nets", "Net"): ("(nodes, fuses)", ["nodes", "fuses", "length"], {
        "is_point": "(self, value)", "point": "(self, value)", "distance": "(self, one, other)",
        "is_connected": "(self)", "is_tree": "(self)"}),
    ("fires", "Fire"): ("(net, lights)", ["net", "lights"], {
        "__call__": "(self, point)", "times": "(self)", "source": "(self, point)", "end": "(self)", "last": "(self)",
        "meetings": "(self)"}),
    ("courses", "Course"): ("(fire, *, delays=None, valves=(), cuts=(), triggers=())", [], {
        "__call__": "(self, point)", "times": "(self)", "burnt_out": "(self, fuse)", "end": "(self)", "events": "(self)"}),
    ("joining", "Chain"): ("(net, left, right, number, *, first=None, last=None)", [], {
        "joint_time": "(self, index)", "time_in": "(self, link, point)", "end": "(self)", "burnt": "(self, time)"}),
    ("ladders", "Ladder"): ("(net, left, right, number)", [], {"distance": "(self, one, other)"}),
    ("workshop", "Workshop"): ("()", [], {
        "act": "(self, user, action)", "undo": "(self, user)", "redo": "(self, user)", "log": "(self)", "names": "(self)",
        "net_of": "(self, name)", "lights_of": "(self, name)", "fire_of": "(self, name)", "preview": "(self, actions, name)"}),
    ("console", "Console"): ("()", [], {"execute": "(self, command)"}),
    ("live", "Live"): ("(net)", ["net", "lights"], {
        "edit": "(self, action)", "edit_all": "(self, actions)", "revert": "(self, version)", "net_at": "(self, version)",
        "lights_at": "(self, version)", "fire_at": "(self, version)", "changes": "(self, version, other)", "time": "(self, node)",
        "watch": "(self, user, node)", "unwatch": "(self, user, node)", "notices": "(self, user)"}),
    ("journals", "Journal"): ("()", [], {"execute": "(self, command)", "text": "(self)"}),
    ("journals", "Replica"): ("(user)", [], {
        "execute": "(self, command)", "merge": "(self, entries)", "entries": "(self)", "skipped": "(self)"}),
    ("machine", "Machine"): ("(net, marks, lights, rules)", [], {
        "log": "(self)", "times": "(self)", "variables": "(self)", "is_rule": "(self, value)", "is_log": "(self, value)"}),
    ("runs", "Run"): ("(machine)", [], {
        "step": "(self)", "now": "(self)", "log": "(self)", "is_over": "(self)", "save": "(self)", "causes": "(self, index)",
        "effects": "(self, index)"}),
}

OPERATORS = {
    ("ratios", "Ratio"): ["__add__", "__radd__", "__sub__", "__rsub__", "__mul__", "__rmul__", "__neg__", "__abs__",
                          "__eq__", "__lt__", "__le__", "__gt__", "__ge__", "__bool__", "__repr__", "__str__"],
    ("nets", "Net"): ["__contains__", "__mul__", "__eq__", "__len__"],
    ("workshop", "Workshop"): ["__contains__", "__len__"],
    ("live", "Live"): ["__len__"],
    ("journals", "Journal"): ["__len__"],
    ("journals", "Replica"): ["__len__"],
    ("machine", "Machine"): ["__eq__"],
}


def defined(module):
    """The names of the functions and classes that stand in the file of a module."""
    tree = ast.parse((PACKAGE / f"{module}.py").read_text())
    return {node.name for node in tree.body if isinstance(node, (ast.FunctionDef, ast.ClassDef))}


class Interface(unittest.TestCase):
    def test_functions(self):
        for module, functions in FUNCTIONS.items():
            for name, signature in functions.items():
                with self.subTest(module=module, name=name):
                    self.assertIn(name, defined(module))
                    made = getattr(import_module(f"fusenets.{module}"), name)
                    self.assertEqual(str(inspect.signature(made)), signature)

    def test_classes(self):
        for (module, name), (signature, properties, methods) in CLASSES.items():
            with self.subTest(name=name):
                self.assertIn(name, defined(module))
                made = getattr(import_module(f"fusenets.{module}"), name)
                self.assertEqual(str(inspect.signature(made)), signature)
                for told in properties:
                    self.assertIsInstance(vars(made)[told], property)
                for told, wanted in methods.items():
                    self.assertEqual(str(inspect.signature(vars(made)[told])), wanted)

    def test_class_method(self):
        made = import_module("fusenets.runs").Run
        self.assertIsInstance(vars(made)["resumed"], classmethod)
        self.assertEqual(str(inspect.signature(made.resumed)), "(machine, text)")

    def test_operators(self):
        for (module, name), methods in OPERATORS.items():
            made = getattr(import_module(f"fusenets.{module}"), name)
            self.assertLessEqual(set(methods), set(vars(made)))


if __name__ == "__main__":
    unittest.main()
