"""The workshop, against a plain model that makes all actions of the log anew each time."""

import unittest
from copy import deepcopy
from random import Random

from cutting import random_lights, random_net, random_point
from fusenets.errors import InvalidAction, InvalidLights, InvalidName, InvalidNumber, UnknownName
from fusenets.fires import Fire
from fusenets.nets import Net
from fusenets.ratios import Ratio
from fusenets.workshop import Workshop
from odd import Strange, is_ratio, odd_numbers, odd_values, only_ratios, raised

USERS = ["ann", "bob", "cy"]


def three():
    """The net of the document."""
    return Net(["a", "b", "c"], [("a", "b", 4), ("b", "c", 2)])


def filled(*actions, user="ann"):
    """A workshop in which a user has made actions."""
    shop = Workshop()
    for action in actions:
        shop.act(user, action)
    return shop


def lit_shop():
    """A workshop with the net n, which is lit at a, and the net m without lights."""
    return filled(("net", "n", three()), ("lights", "n", [("a", 0)]), ("net", "m", Net(["x", "y"], [("x", "y", 3)])))


def state(shop):
    """All that a workshop tells."""
    names = shop.names()
    return [shop.log(), names, len(shop), [shop.net_of(name) for name in names], [shop.lights_of(name) for name in names]]


class Stop(Exception):
    """An error of the model, with the name and the fields that the workshop's error has."""


def model_of(actions):
    """A dict from names to (nodes, fuses, lights) after actions; raises Stop at the first bad one."""
    nets = {}
    for index, action in enumerate(actions):
        try:
            model_step(nets, action)
        except Stop as stop:
            raise Stop(index, *stop.args)
    return nets


def model_step(nets, action):
    """Changes the dict of the model by one action."""
    kind, name = action[:2]
    if kind == "net":
        if name in nets:
            raise Stop("NameTaken", {"name": name})
        if len(nets) == 20:
            raise Stop("LimitExceeded", {"limit": 20})
        nets[name] = (action[2].nodes, action[2].fuses, [])
        return
    if name not in nets:
        raise Stop("UnknownName", {"name": name})
    nodes, fuses, lights = nets[name]
    if kind == "drop":
        nets.pop(name)
    elif kind == "lights":
        net = Net(nodes, fuses)
        for index, (point, _) in enumerate(action[2]):
            if not net.is_point(point):
                raise Stop("InvalidLights", {"index": index})
        nets[name] = (nodes, fuses, [(net.point(point), time) for point, time in action[2]])
    elif kind == "scale":
        by = action[2]
        nets[name] = (nodes, [(one, other, length * by) for one, other, length in fuses],
                      [(point if isinstance(point, str) else (point[0], point[1] * by), time * by) for point, time in lights])
    else:
        model_join(nets, name, *action[2:])


def model_join(nets, name, other, pairs):
    """Joins two nets of the model."""
    if other not in nets:
        raise Stop("UnknownName", {"name": other})
    if other == name:
        raise Stop("InvalidJoin", {"value": other})
    nodes, fuses, lights = nets[name]
    more_nodes, more_fuses, more_lights = nets[other]
    lefts, rights = [left for left, _ in pairs], [right for _, right in pairs]
    if not set(lefts) <= set(nodes) or not set(rights) <= set(more_nodes) or len(set(lefts)) < len(pairs) or len(set(rights)) < len(pairs):
        raise Stop("InvalidJoin", {"value": pairs})
    called = {right: left for left, right in pairs}
    added = [node for node in more_nodes if node not in called]
    for node in added:
        if node in nodes:
            raise Stop("InvalidJoin", {"value": node})
    if len(nodes) + len(added) > 30:
        raise Stop("LimitExceeded", {"limit": 30})
    if len(fuses) + len(more_fuses) > 40:
        raise Stop("LimitExceeded", {"limit": 40})
    if len(lights) + len(more_lights) > 20:
        raise Stop("LimitExceeded", {"limit": 20})
    moved = [(called.get(point, point) if isinstance(point, str) else (point[0] + len(fuses), point[1]), time) for point, time in more_lights]
    ends = [(called.get(one, one), called.get(end, end), length) for one, end, length in more_fuses]
    nets[name] = (nodes + added, fuses + ends, lights + moved)
    nets.pop(other)


class Known(unittest.TestCase):
    def test_document(self):
        shop = filled(("net", "n", three()))
        shop.act("bob", ("lights", "n", [("a", 0)]))
        self.assertTrue(is_ratio(shop.preview([("scale", "n", 2)], "n"), 12))
        self.assertEqual(raised(shop.undo, "ann"), ("Blocked", {"index": 1}))
        self.assertEqual((shop.undo("bob"), len(shop.log())), (("lights", "n", [("a", 0)]), 1))

    def test_empty(self):
        shop = Workshop()
        self.assertEqual(state(shop), [[], [], 0, [], []])
        self.assertFalse("n" in shop)
        self.assertEqual(raised(shop.undo, "ann"), ("NothingToUndo", {"user": "ann"}))
        self.assertEqual(raised(shop.redo, "ann"), ("NothingToUndo", {"user": "ann"}))

    def test_actions(self):
        shop = lit_shop()
        self.assertEqual((shop.names(), len(shop), "n" in shop, "x" in shop), (["m", "n"], 2, True, False))
        self.assertEqual((shop.net_of("n"), shop.lights_of("n"), shop.lights_of(name="m")), (three(), [("a", 0)], []))
        self.assertEqual((shop.fire_of("m"), shop.fire_of("n").times()), (None, {"a": 0, "b": 4, "c": 6}))
        self.assertIsNone(shop.act(user="bob", action=("lights", "m", [((0, 1), 2), ((0, 3), 1)])))
        self.assertEqual(shop.lights_of("m"), [((0, 1), 2), ("y", 1)])
        self.assertTrue(only_ratios([shop.lights_of("m")[0][0][1]] + [time for _, time in shop.lights_of("m")]))
        shop.act("bob", ("scale", "m", Ratio(1, 2)))
        self.assertEqual((shop.net_of("m").fuses, shop.lights_of("m")), ([("x", "y", Ratio(3, 2))], [((0, Ratio(1, 2)), 1), ("y", Ratio(1, 2))]))
        shop.act("cy", ("join", "n", "m", [("c", "y")]))
        self.assertEqual(shop.net_of("n"), Net(["a", "b", "c", "x"], three().fuses + [("x", "c", Ratio(3, 2))]))
        self.assertEqual(shop.lights_of("n"), [("a", 0), ((2, Ratio(1, 2)), 1), ("c", Ratio(1, 2))])
        self.assertEqual(shop.names(), ["n"])
        shop.act("cy", ("lights", "n", []))
        self.assertEqual((shop.lights_of("n"), shop.fire_of("n")), ([], None))
        shop.act("cy", ("drop", "n"))
        self.assertEqual((shop.names(), len(shop.log())), ([], 8))

    def test_undo_of_each_user(self):
        shop = lit_shop()
        shop.act("bob", ("scale", "n", 3))
        shop.act("ann", ("scale", "m", 5))
        self.assertEqual(shop.undo(user="bob"), ("scale", "n", 3))
        self.assertEqual((shop.net_of("n"), shop.net_of("m").length), (three(), 15))
        self.assertEqual(raised(shop.undo, "bob"), ("NothingToUndo", {"user": "bob"}))
        self.assertEqual(shop.redo(user="bob"), ("scale", "n", 3))
        self.assertEqual([user for user, _ in shop.log()], ["ann"] * 4 + ["bob"])
        self.assertEqual(shop.undo("ann"), ("scale", "m", 5))
        self.assertEqual(shop.undo("ann")[0], "net")
        self.assertEqual((shop.names(), shop.net_of("n").length), (["n"], 18))

    def test_blocked_at_the_first_that_raises(self):
        shop = filled(("net", "n", three()))
        shop.act("bob", ("net", "m", three()))
        shop.act("bob", ("lights", "m", [("a", 0)]))
        shop.act("cy", ("scale", "n", 2))
        shop.act("bob", ("drop", "n"))
        before = state(shop)
        self.assertEqual(raised(shop.undo, "ann"), ("Blocked", {"index": 3}))
        self.assertEqual(state(shop), before)
        shop.undo("bob")
        self.assertEqual(raised(shop.undo, "ann"), ("Blocked", {"index": 3}))
        shop.undo("cy")
        self.assertEqual(shop.undo("ann")[0], "net")

    def test_every_error_blocks(self):
        small = Net(["a"], [])
        shop = filled(("net", "n", three()), ("drop", "n"))
        shop.act("bob", ("net", "n", small))
        self.assertEqual(raised(shop.undo, "ann"), ("Blocked", {"index": 2}))
        shop = filled(("net", "n", three()))
        shop.act("bob", ("scale", "n", 2))
        shop.act("cy", ("lights", "n", [((0, 5), 0)]))
        self.assertEqual(raised(shop.undo, "bob"), ("Blocked", {"index": 2}))
        shop = filled(*[("net", "n" + letter, small) for letter in "abcdefghijklmnopqrst"], ("drop", "na"))
        shop.act("bob", ("net", "x", small))
        self.assertEqual(raised(shop.undo, "ann"), ("Blocked", {"index": 21}))

    def test_redo(self):
        shop = lit_shop()
        for number in (2, 3, 5):
            shop.act("bob", ("scale", "n", number))
        self.assertEqual([shop.undo("bob")[2] for _ in range(3)], [5, 3, 2])
        self.assertEqual([shop.redo("bob")[2] for _ in range(2)], [2, 3])
        self.assertEqual(shop.undo("bob")[2], 3)
        self.assertEqual([shop.redo("bob")[2] for _ in range(2)], [3, 5])
        self.assertEqual(raised(shop.redo, "bob"), ("NothingToUndo", {"user": "bob"}))
        self.assertEqual(shop.net_of("n").length, 180)

    def test_nothing_to_redo_after_an_own_action(self):
        shop = lit_shop()
        for user in ("bob", "cy"):
            shop.act(user, ("scale", "n", 2))
            shop.undo(user)
        shop.act("bob", ("scale", "m", 2))
        self.assertEqual(raised(shop.redo, "bob"), ("NothingToUndo", {"user": "bob"}))
        self.assertEqual(shop.redo("cy"), ("scale", "n", 2))

    def test_failed_action_and_redo_change_nothing(self):
        shop = lit_shop()
        shop.act("bob", ("scale", "m", 2))
        shop.undo("bob")
        self.assertEqual(raised(shop.act, "bob", ("scale", "q", 2)), ("UnknownName", {"name": "q"}))
        shop.act("ann", ("drop", "m"))
        before = state(shop)
        self.assertEqual(raised(shop.redo, "bob"), ("UnknownName", {"name": "m"}))
        self.assertEqual(state(shop), before)
        shop.undo("ann")
        self.assertEqual(shop.redo("bob"), ("scale", "m", 2))

    def test_undo_of_another_user_keeps_redo(self):
        shop = lit_shop()
        for user in ("bob", "cy"):
            shop.act(user, ("scale", "n", 2))
        shop.undo("bob")
        shop.undo("cy")
        shop.redo("bob")
        shop.undo("ann")
        self.assertEqual((shop.redo("cy"), shop.redo("ann")[0]), (("scale", "n", 2), "net"))

    def test_limits(self):
        small = Net(["a"], [("a", "a", 1)])
        shop = filled(*[("net", "n" + letter, small) for letter in "abcdefghijklmnopqrst"])
        self.assertEqual(len(shop), 20)
        self.assertEqual(raised(shop.act, "ann", ("net", "x", small)), ("LimitExceeded", {"limit": 20}))
        self.assertEqual(raised(shop.act, "ann", ("net", "na", small)), ("NameTaken", {"name": "na"}))
        shop.act("ann", ("lights", "na", [("a", 0)] * 20))
        self.assertEqual(raised(shop.act, "ann", ("lights", "na", [("a", 0)] * 21)), ("InvalidLights", {"index": None}))
        shop.act("ann", ("lights", "nb", [("a", 0)]))
        self.assertEqual(raised(shop.act, "ann", ("join", "na", "nb", [("a", "a")])), ("LimitExceeded", {"limit": 20}))
        shop.act("ann", ("lights", "na", [("a", 0)] * 19))
        shop.act("ann", ("join", "na", "nb", [("a", "a")]))
        self.assertEqual((len(shop.lights_of("na")), len(shop)), (20, 19))

    def test_limits_of_joined_nets(self):
        nodes = ["n" + letter for letter in "abcdefghijklmnopqrst"]
        more = ["m" + letter for letter in "abcdefghijk"]
        shop = filled(("net", "n", Net(nodes, [("na", "nb", 1)] * 20)), ("net", "m", Net(more, [])), ("net", "o", Net(["x"], [("x", "x", 1)] * 21)),
                      ("net", "p", Net(["x"], [("x", "x", 1)] * 20)))
        before = state(shop)
        self.assertEqual(raised(shop.act, "ann", ("join", "n", "m", [])), ("LimitExceeded", {"limit": 30}))
        self.assertEqual(raised(shop.act, "ann", ("join", "n", "o", [])), ("LimitExceeded", {"limit": 40}))
        self.assertEqual(state(shop), before)
        shop.act("ann", ("join", "n", "m", [("na", "ma")]))
        self.assertEqual(len(shop.net_of("n").nodes), 30)
        shop.act("ann", ("join", "n", "p", [("nb", "x")]))
        self.assertEqual(len(shop.net_of("n")), 40)

    def test_preview(self):
        shop = lit_shop()
        before = state(shop)
        self.assertEqual(shop.preview([], "n"), 6)
        self.assertIsNone(shop.preview([], "m"))
        self.assertEqual(shop.preview(actions=[("net", "k", three()), ("lights", "k", [("b", 1)]), ("join", "n", "m", [("c", "x")])], name="k"), 5)
        self.assertEqual(shop.preview([("join", "n", "m", [("c", "x")])], "n"), 9)
        self.assertIsNone(shop.preview([("join", "n", "m", [])], "n"))
        self.assertEqual(raised(shop.preview, [("drop", "n")], "n"), ("UnknownName", {"name": "n"}))
        self.assertEqual(raised(shop.preview, [("drop", "n"), ("drop", "n")], "zz"), ("UnknownName", {"name": "n"}))
        self.assertEqual(raised(shop.preview, [("scale", "n", 0), 5], "zz"), ("InvalidNumber", {"value": 0}))
        for value in odd_values():
            if not isinstance(value, list):
                with self.assertRaises(InvalidAction) as caught:
                    shop.preview(value, "n")
                self.assertIs(caught.exception.value, value)
            with self.assertRaises(InvalidAction) as caught:
                shop.preview([("scale", "n", 2), value], "n")
            self.assertIs(caught.exception.value, value)
            with self.assertRaises(UnknownName) as caught:
                shop.preview([], value)
            self.assertIs(caught.exception.name, value)
        self.assertEqual(state(shop), before)


class Kept(unittest.TestCase):
    def test_passed_lists(self):
        shop, lights, pairs = lit_shop(), [("x", 1), ((0, Ratio(6, 2)), 2)], [("c", "y")]
        shop.act("ann", ("lights", "m", lights))
        shop.act("ann", ("join", "n", "m", pairs))
        told = deepcopy(shop.log()[-2:])
        self.assertEqual(told, [("ann", ("lights", "m", [("x", 1), ((0, 3), 2)])), ("ann", ("join", "n", "m", [("c", "y")]))])
        self.assertIs(type(shop.log()[-2][1][2][0][1]), int)
        before = state(shop)
        lights.clear()
        pairs.append(5)
        for rows in (shop.log(), shop.names(), shop.lights_of("n"), shop.log()[-1][1][3], shop.log()[-2][1][2]):
            rows.clear()
        self.assertEqual(state(shop), before)
        taken = shop.undo("ann")
        taken[3].append("x")
        again = shop.redo("ann")
        self.assertEqual(again, ("join", "n", "m", [("c", "y")]))
        again[3].clear()
        self.assertEqual(shop.undo("ann"), ("join", "n", "m", [("c", "y")]))
        self.assertEqual(shop.undo("ann"), ("lights", "m", [("x", 1), ((0, 3), 2)]))

    def test_log_keeps_actions_as_passed(self):
        number = Ratio(4, 2)
        shop = filled(("net", "n", three()), ("scale", "n", number), ("lights", "n", [((0, 8), Ratio(1))]))
        self.assertIs(shop.log()[1][1][2], number)
        self.assertEqual(shop.log()[2][1], ("lights", "n", [((0, 8), 1)]))
        self.assertEqual(shop.lights_of("n"), [("b", 1)])


class Wrong(unittest.TestCase):
    def check(self, shop, error, call, *values):
        """Asserts an error, and that nothing has changed."""
        before = state(shop)
        with self.subTest(values=repr(values)):
            self.assertEqual(raised(call, *values), error)
        self.assertEqual(state(shop), before)

    def test_users(self):
        shop = lit_shop()
        for value in odd_values():
            if value.__class__ is str and value == "zz":
                continue
            for call in (lambda user: shop.act(user, 0), shop.undo, shop.redo):
                with self.assertRaises(InvalidName) as caught:
                    call(value)
                self.assertIs(caught.exception.value, value)

    def test_actions(self):
        shop, net = lit_shop(), three()
        wrong = [("net", "k"), ("net", "k", net, 0), ["net", "k", net], ("net", "K", net), ("net", net, "k"), ("net", "k", None), ("nets", "k", net),
                 ("drop",), ("drop", "n", 0), ("drop", 0), ("drop", ""), ("lights", "n"), ("lights", "n", [], 0), ("lights", None, []),
                 ("scale", "n"), ("scale", "n", 2, 3), ("scale", b"n", 2), ("join", "n", "m"), ("join", "n", "m", [], 0), ("join", "n", "M", []),
                 ("join", 0, "m", []), ("join", "n", 0, []), ("undo", "n"), ("", "n"), (0, "n"), (None,), ("net", "k", [["a"], []]), ("lights", "toolongname", [])]
        for value in wrong + odd_values():
            before = state(shop)
            with self.subTest(value=repr(value)), self.assertRaises(InvalidAction) as caught:
                shop.act("ann", value)
            self.assertIs(caught.exception.value, value)
            self.assertEqual(state(shop), before)

    def test_names_and_orders(self):
        shop, bad = lit_shop(), "bad"
        for action in (("drop", "q"), ("lights", "q", bad), ("scale", "q", bad), ("join", "q", "r", bad)):
            self.check(shop, ("UnknownName", {"name": "q"}), shop.act, "ann", action)
        self.check(shop, ("UnknownName", {"name": "r"}), shop.act, "ann", ("join", "n", "r", bad))
        self.check(shop, ("InvalidJoin", {"value": "n"}), shop.act, "ann", ("join", "n", "n", bad))
        self.check(shop, ("InvalidJoin", {"value": bad}), shop.act, "ann", ("join", "n", "m", bad))
        self.check(shop, ("NameTaken", {"name": "n"}), shop.act, "ann", ("net", "n", three()))
        shop.act("ann", ("net", "o", three()))
        self.check(shop, ("InvalidJoin", {"value": "a"}), shop.act, "ann", ("join", "n", "o", []))
        self.check(shop, ("InvalidJoin", {"value": [("a", "x")]}), shop.act, "ann", ("join", "n", "o", [("a", "x")]))

    def test_lights_and_numbers(self):
        shop = lit_shop()
        for value in odd_values():
            if isinstance(value, list) and not value:
                continue
            index = 0 if isinstance(value, list) else None
            with self.assertRaises(InvalidLights) as caught:
                shop.act("ann", ("lights", "n", value))
            self.assertEqual(caught.exception.index, index)
        self.check(shop, ("InvalidLights", {"index": 1}), shop.act, "ann", ("lights", "n", [("a", 0), ("x", 0)]))
        for value in odd_numbers() + [0, -1, Ratio(0), Ratio(-1, 2)]:
            with self.assertRaises(InvalidNumber) as caught:
                shop.act("ann", ("scale", "n", value))
            self.assertIs(caught.exception.value, value)
        self.assertEqual(len(shop.log()), 3)

    def test_unknown_names(self):
        shop = lit_shop()
        for value in odd_values() + ["q", "nn", "N"]:
            self.assertFalse(value in shop)
            for call in (shop.net_of, shop.lights_of, shop.fire_of):
                with self.assertRaises(UnknownName) as caught:
                    call(value)
                self.assertIs(caught.exception.name, value)


def random_action(random):
    """A drawn action, often one that cannot be made."""
    name, other = random.choice("nmok"), random.choice("nmok")
    kind = random.choice(["net", "net", "lights", "lights", "scale", "join", "join", "drop"])
    if kind == "net":
        nodes, fuses = random_net(random, 4, 5)
        shift = random.choice([0, 1, 2, 3])
        names = {node: "abcdefghijklmnopqrst"[index + 4 * shift] for index, node in enumerate(sorted(nodes))}
        return kind, name, Net([names[node] for node in nodes], [(names[one], names[end], length) for one, end, length in fuses])
    if kind == "lights":
        points = [random.choice("abcdefghij") for _ in range(3)] + [(random.randint(0, 2), random.randint(0, 3)) for _ in range(2)]
        return kind, name, [(random.choice(points), random.randint(-2, 5)) for _ in range(random.choice([0, 1, 1, 2, 9]))]
    if kind == "scale":
        return kind, name, random.choice([2, Ratio(1, 2), Ratio(3, 2), 1])
    if kind == "join":
        return kind, name, other, [(random.choice("abcd"), random.choice("abcdefgh")) for _ in range(random.choice([0, 0, 1, 1, 2]))]
    return kind, name


class Drawn(unittest.TestCase):
    def compare(self, shop, log):
        """Compares a workshop with the model of the log."""
        self.assertEqual(shop.log(), log)
        nets = model_of([action for _, action in log])
        self.assertEqual((shop.names(), len(shop)), (sorted(nets), len(nets)))
        for name, (nodes, fuses, lights) in nets.items():
            self.assertTrue(name in shop)
            self.assertEqual((shop.net_of(name), shop.lights_of(name)), (Net(nodes, fuses), lights))
            fire = shop.fire_of(name)
            self.assertEqual(None if fire is None else (fire.net, fire.lights), (Net(nodes, fuses), lights) if lights else None)

    def test_model(self):
        random = Random(1)
        kinds = {}
        for _ in range(120):
            shop, log, undone = Workshop(), [], {user: [] for user in USERS}
            for _ in range(60):
                user, call = random.choice(USERS), random.choice(["act", "act", "act", "undo", "redo", "preview"])
                if call in ("act", "preview"):
                    action = random_action(random)
                elif call == "redo":
                    action = undone[user][-1] if undone[user] else None
                else:
                    action = None
                error = getattr(self, "check_" + call)(random, shop, log, undone, user, action)
                kinds[call, error] = kinds.get((call, error), 0) + 1
                self.compare(shop, log)
        wanted = {("act", None), ("act", "NameTaken"), ("act", "UnknownName"), ("act", "InvalidJoin"), ("act", "InvalidLights"),
                  ("undo", None), ("undo", "Blocked"), ("undo", "NothingToUndo"), ("redo", None), ("redo", "UnknownName"), ("redo", "NothingToUndo")}
        self.assertLessEqual(wanted, set(kinds))

    def check_act(self, random, shop, log, undone, user, action):
        """Makes an action in both."""
        try:
            model_of([made for _, made in log] + [action])
        except Stop as stop:
            self.assertEqual(raised(shop.act, user, action), stop.args[1:])
            return stop.args[1]
        shop.act(user, action)
        log.append((user, action))
        undone[user] = []
        return None

    def check_redo(self, random, shop, log, undone, user, action):
        """Makes an action again in both."""
        if action is None:
            self.assertEqual(raised(shop.redo, user), ("NothingToUndo", {"user": user}))
            return "NothingToUndo"
        try:
            model_of([made for _, made in log] + [action])
        except Stop as stop:
            self.assertEqual(raised(shop.redo, user), stop.args[1:])
            return stop.args[1]
        self.assertEqual(shop.redo(user), action)
        log.append((user, undone[user].pop()))
        return None

    def check_undo(self, random, shop, log, undone, user, action):
        """Undoes the last action of a user in both."""
        places = [index for index, (maker, _) in enumerate(log) if maker == user]
        if not places:
            self.assertEqual(raised(shop.undo, user), ("NothingToUndo", {"user": user}))
            return "NothingToUndo"
        index = places[-1]
        rest = log[:index] + log[index + 1:]
        try:
            model_of([made for _, made in rest])
        except Stop as stop:
            self.assertNotEqual(index, len(log) - 1)
            self.assertEqual(raised(shop.undo, user), ("Blocked", {"index": stop.args[0] + 1}))
            return "Blocked"
        self.assertEqual(shop.undo(user), log[index][1])
        undone[user].append(log.pop(index)[1])
        return None

    def check_preview(self, random, shop, log, undone, user, action):
        """Previews one or two actions."""
        actions, name = [action, random_action(random)][:random.randint(0, 2)], random.choice("nmok")
        try:
            nets = model_of([made for _, made in log] + actions)
        except Stop as stop:
            self.assertEqual(raised(shop.preview, actions, name), stop.args[1:])
            return stop.args[1]
        if name not in nets:
            self.assertEqual(raised(shop.preview, actions, name), ("UnknownName", {"name": name}))
            return None
        nodes, fuses, lights = nets[name]
        self.assertEqual(shop.preview(actions, name), Fire(Net(nodes, fuses), lights).end() if lights else None)
        return None


if __name__ == "__main__":
    unittest.main()
