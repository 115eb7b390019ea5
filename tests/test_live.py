"""Live nets, against nets, lights and fires that are made anew for each version."""

import unittest
from copy import deepcopy
from random import Random

from cutting import fraction, random_net, random_point
from fusenets.fires import Fire
from fusenets.live import Live
from fusenets.nets import Net
from fusenets.ratios import Ratio
from odd import Strange, is_ratio, odd_numbers, odd_values, only_ratios, raised

WORDS = ["a", "b", "c", "d", "e", "f", "g", "h"]
MANY = [one + other for one in "abc" for other in "abcdefghij"]


def pair(one="a", other="b", length=4):
    """A live net with one fuse."""
    return Live(Net([one, other], [(one, other, length)]))


class Model:
    """All versions as plain nodes, fuses and lights; each edit makes them anew."""

    def __init__(self, nodes, fuses):
        self.versions = [(list(nodes), list(fuses), [])]

    def after(self, version, edit):
        """The version after an edit that can be made."""
        nodes, fuses, lights = deepcopy(version)
        kind = edit[0]
        if kind == "node":
            nodes.append(edit[1])
        elif kind == "fuse":
            fuses.append(edit[1:])
        elif kind == "cut":
            kept = [index for index in range(len(fuses)) if index != edit[1]]
            fuses = [fuses[index] for index in kept]
            lights = [(point if isinstance(point, str) else (kept.index(point[0]), point[1]), time) for point, time in lights]
        elif kind == "length":
            fuses[edit[1]] = fuses[edit[1]][:2] + (edit[2],)
        elif kind == "light":
            lights.append((Net(nodes, fuses).point(edit[1]), edit[2]))
        else:
            del lights[edit[1]]
        return nodes, fuses, lights

    def times(self, number):
        """The times in a version."""
        nodes, fuses, lights = self.versions[number]
        return Fire(Net(nodes, fuses), lights).times() if lights else dict.fromkeys(nodes)

    def changes(self, number, other):
        """The changes from a version to another one."""
        before, after = self.times(number), self.times(other)
        nodes = list(after) + [node for node in before if node not in after]
        return [(node, before.get(node), after.get(node)) for node in nodes if before.get(node) != after.get(node)]


def lit(lights, fuse):
    """The distances of the lights inside a fuse."""
    return [point[1] for point, _ in lights if not isinstance(point, str) and point[0] == fuse]


def good_edit(random, version):
    """An edit that can be made."""
    nodes, fuses, lights = version
    edits = [("light", random_point(random, nodes, [(one, other, int(length.floor()) if isinstance(length, Ratio) else length)
                                                    for one, other, length in fuses]), random.randint(-3, 9))]
    new = [word for word in WORDS if word not in nodes]
    if new:
        edits.append(("node", random.choice(new)))
    edits.append(("fuse", random.choice(nodes), random.choice(nodes), random.choice([1, 2, 3, Ratio(5, 2)])))
    free = [fuse for fuse in range(len(fuses)) if not lit(lights, fuse)]
    if free:
        edits.append(("cut", random.choice(free)))
    if fuses:
        fuse = random.randrange(len(fuses))
        longest = max([0] + lit(lights, fuse), key=fraction)
        edits.append(("length", fuse, longest + random.choice([1, 2, Ratio(3, 2)])))
    if lights:
        edits.append(("dark", random.randrange(len(lights))))
    if len(lights) >= 20 or len(fuses) >= 40:
        return edits[-1]
    return random.choice(edits)


class Checks(unittest.TestCase):
    def check_last(self, live, model):
        """The last version is that of the model."""
        nodes, fuses, lights = model.versions[-1]
        self.assertEqual(len(live), len(model.versions))
        self.assertEqual((live.net.nodes, live.net.fuses, live.lights), (nodes, fuses, lights))
        self.assertEqual([(node, live.time(node)) for node in nodes], list(model.times(-1).items()))

    def check_unchanged(self, live, edit, error, fields):
        """The edit raises the error, alone and in a list, and nothing changes."""
        before = (len(live), live.net, live.lights, live.notices("u"))
        self.assertEqual(raised(live.edit, edit), (error, fields))
        self.assertEqual(raised(live.edit_all, [edit]), ("Blocked", {"index": 0}))
        if len(live.net) < 40:
            self.assertEqual(raised(live.edit_all, [("fuse", "a", "a", 1), ("cut", len(live.net)), edit, None]), ("Blocked", {"index": 2}))
        self.assertEqual((len(live), live.net, live.lights, live.notices("u")), before)


class Known(Checks):
    def test_document(self):
        live = pair()
        live.watch("ann", "b")
        self.assertEqual(live.edit(("light", "a", 1)), [("a", None, 1), ("b", None, 5)])
        self.assertEqual(live.edit_all([("length", 0, 2), ("node", "c")]), [("b", 5, 3)])
        self.assertEqual((live.notices("ann"), live.changes(2, 1), len(live)), ([(1, "b", None, 5), (2, "b", 5, 3)], [("b", 3, 5)], 3))

    def test_kinds(self):
        live = pair()
        self.assertEqual((live.fire_at(0), live.lights_at(0), live.time("a"), len(live)), (None, [], None, 1))
        changes = live.edit(("light", (0, 1), 1))
        self.assertTrue(all(isinstance(number, Ratio) for _, one, other in changes for number in (one, other) if number is not None))
        self.assertTrue(is_ratio(live.time("b"), 4) and is_ratio(live.lights[0][0][1], 1) and is_ratio(live.lights[0][1], 1))
        self.assertTrue(only_ratios(live.changes(0, 1)))
        self.assertIsInstance(live.fire_at(1), Fire)
        self.assertIsInstance(live.net_at(1), Net)
        live.watch("u", "a")
        live.edit(("length", 0, 5))
        live.edit(("light", "a", 0))
        self.assertIs(live.notices("u")[0][0].__class__, int)
        self.assertIs(live.watch("u", "a"), None)
        self.assertIs(live.unwatch("u", "a"), None)

    def test_names_of_arguments(self):
        live = Live(net=Net(["a", "b"], [("a", "b", 4)]))
        live.watch(user="u", node="b")
        live.edit(action=("light", "a", 0))
        live.edit_all(actions=[])
        live.revert(version=0)
        self.assertEqual(live.changes(version=0, other=1), [("a", None, 0), ("b", None, 4)])
        self.assertEqual((live.net_at(version=0), live.lights_at(version=1), live.fire_at(version=3)), (live.net, [("a", 0)], None))
        self.assertEqual((live.time(node="a"), live.notices(user="u")), (None, [(1, "b", None, 4), (3, "b", 4, None)]))
        live.unwatch(user="u", node="b")

    def test_points_of_lights(self):
        live = pair()
        live.edit_all([("light", (0, 0), 0), ("light", (0, 4), 0), ("light", (0, Ratio(8, 2)), 1), ("light", (0, 3), 2)])
        self.assertEqual(live.lights, [("a", 0), ("b", 0), ("b", 1), ((0, 3), 2)])

    def test_places_when_a_fuse_is_removed(self):
        live = Live(Net(["a", "b"], [("a", "b", 4), ("b", "a", 6), ("a", "a", 2)]))
        live.edit_all([("light", (1, 5), 0), ("light", (2, 1), 1), ("light", (0, 4), 20)])
        self.assertEqual(live.edit(("cut", 0)), [])
        self.assertEqual(live.lights, [((0, 5), 0), ((1, 1), 1), ("b", 20)])
        self.check_unchanged(live, ("cut", 0), "InvalidFuse", {"value": 0})
        live.edit(("dark", 0))
        self.assertEqual(live.edit(("cut", 0)), [("b", 8, 20)])
        self.assertEqual(live.lights, [((0, 1), 1), ("b", 20)])
        self.assertEqual(live.lights_at(1), [((1, 5), 0), ((2, 1), 1), ("b", 20)])

    def test_places_when_a_length_changes(self):
        live = pair()
        live.edit(("light", (0, 3), 0))
        for length in [3, Ratio(29, 10), 0, -1, 2]:
            self.check_unchanged(live, ("length", 0, length), "InvalidNumber", {"value": length})
        self.assertEqual(live.edit(("length", 0, Ratio(31, 10))), [("b", 1, Ratio(1, 10))])
        self.assertEqual(live.lights, [((0, 3), 0)])
        self.assertEqual(live.edit(("length", 0, Ratio(31, 10))), [])
        self.assertEqual(len(live), 4)

    def test_edit_all(self):
        live = pair()
        self.assertEqual((live.edit_all([]), len(live)), ([], 2))
        self.assertEqual(live.edit_all([("light", "b", 1), ("dark", 0)]), [])
        self.assertEqual(live.edit_all([("node", "c"), ("fuse", "c", "b", 1), ("light", "c", 0), ("cut", 0)]), [("b", None, 1), ("c", None, 0)])
        self.assertEqual(raised(live.edit_all, [("node", "d"), ("cut", 9), ("cut", 0)]), ("Blocked", {"index": 1}))
        self.assertEqual(raised(live.edit_all, [("node", "d"), ("node", "d")]), ("Blocked", {"index": 1}))
        self.assertEqual((len(live), live.net.nodes), (4, ["a", "b", "c"]))

    def test_revert(self):
        live = pair()
        live.watch("u", "c")
        live.edit_all([("node", "c"), ("light", "c", 3)])
        self.assertEqual(live.revert(0), [("c", 3, None)])
        self.assertEqual(live.edit(("light", "b", 1)), [("a", None, 5), ("b", None, 1)])
        self.assertEqual(live.revert(1), [("a", 5, None), ("b", 1, None), ("c", None, 3)])
        self.assertEqual(live.revert(4), [])
        self.assertEqual(live.changes(4, 3), [("a", None, 5), ("b", None, 1), ("c", 3, None)])
        self.assertEqual((len(live), live.lights, live.net), (6, [("c", 3)], live.net_at(1)))
        self.assertEqual(live.notices("u"), [(1, "c", None, 3), (2, "c", 3, None), (4, "c", None, 3)])

    def test_limits(self):
        live = Live(Net(["a"] + MANY[1:29], []))
        live.edit(("node", MANY[29]))
        self.check_unchanged(live, ("node", "zz"), "InvalidNet", {"part": "nodes"})
        self.assertEqual(len(live.net.nodes), 30)
        live = Live(Net(["a"], [("a", "a", 1)] * 39))
        live.edit(("fuse", "a", "a", 1))
        self.check_unchanged(live, ("fuse", "a", "a", 1), "InvalidNet", {"part": "fuses"})
        live.edit(("cut", 39))
        live.edit(("fuse", "a", "a", 1))
        live = pair()
        live.edit_all([("light", "a", 0)] * 20)
        self.check_unchanged(live, ("light", "a", 0), "InvalidLights", {"index": 20})
        live.edit(("dark", 0))
        live.edit(("light", "a", 0))
        self.assertEqual((raised(live.edit_all, [("dark", 0)] * 21), len(live.lights)), (("Blocked", {"index": 20}), 20))


class Wrong(Checks):
    def live(self):
        """A live net with a light at a node and one inside a fuse."""
        live = Live(Net(["a", "b"], [("a", "b", 4), ("b", "b", 2)]))
        live.edit_all([("light", "a", 0), ("light", (1, 1), 0)])
        return live

    def test_actions(self):
        live = self.live()
        wrong = odd_values() + ["node", ("node",), ("node", "c", "d"), ["node", "c"], ("fuse", "a", "b"), ("fuse", "a", "b", 1, 1), ("cut",),
                                ("cut", 0, 0), ("length", 0), ("length", 0, 1, 1), ("light", "a"), ("light", ("a", 0)), ("dark",), ("dark", 0, 0),
                                ("drop", 0), (("node",), "c"), (["node"], "c"), (Strange(), 0), ("Node", "c"), ("", 0), (b"node", "c")]
        for value in wrong:
            with self.subTest(value=str(value.__class__)):
                told = raised(live.edit, value)
                self.assertEqual(told[0], "InvalidAction")
                self.assertIs(told[1]["value"], value)
                self.assertEqual(raised(live.edit_all, [value]), ("Blocked", {"index": 0}))
        for value in odd_values() + [(), ("node", "c"), (("node", "c"),)]:
            if not isinstance(value, list):
                told = raised(live.edit_all, value)
                self.assertEqual(told[0], "InvalidAction")
                self.assertIs(told[1]["value"], value)
        self.assertEqual(len(live), 2)

    def test_nodes(self):
        live = self.live()
        for value in odd_values()[:-1] + ["a", "b"]:
            self.check_unchanged(live, ("node", value), "InvalidNet", {"part": "nodes"})

    def test_fuses(self):
        live = self.live()
        for value in odd_values() + ["d"]:
            self.check_unchanged(live, ("fuse", value, "b", 1), "InvalidNet", {"part": "fuses"})
            self.check_unchanged(live, ("fuse", "a", value, 1), "InvalidNet", {"part": "fuses"})
        for value in odd_numbers() + [0, -1, Ratio(0), Ratio(-1, 9)]:
            self.check_unchanged(live, ("fuse", "a", "b", value), "InvalidNet", {"part": "fuses"})

    def test_indexes(self):
        live = self.live()
        for value in odd_numbers() + ["a", 2, -1, Ratio(0), 1]:
            told = raised(live.edit, ("cut", value))
            self.assertEqual(told[0], "InvalidFuse")
            self.assertIs(told[1]["value"], value)
        for value in odd_numbers() + ["a", 2, -1, Ratio(0)]:
            for call, error in [(("length", value, None), "InvalidFuse"), (("dark", value), "InvalidLights")]:
                told = raised(live.edit, call)
                self.assertEqual(told[0], error)
                self.assertIs(list(told[1].values())[0], value)
        for value in odd_numbers() + [0, -1, Ratio(-1, 2), 1, Ratio(1), Ratio(1, 2)]:
            told = raised(live.edit, ("length", 1, value))
            self.assertEqual(told[0], "InvalidNumber")
            self.assertIs(told[1]["value"], value)
        self.assertEqual(len(live), 2)

    def test_lights(self):
        live = self.live()
        for value in odd_values() + ["d", (2, 0), (0, 5), (0, -1)]:
            self.check_unchanged(live, ("light", value, 0), "InvalidLights", {"index": 2})
        for value in odd_numbers():
            self.check_unchanged(live, ("light", "a", value), "InvalidLights", {"index": 2})

    def test_versions(self):
        live = self.live()
        for value in odd_numbers() + [2, -1, Ratio(0), Ratio(1)]:
            for call in [live.revert, live.net_at, live.lights_at, live.fire_at]:
                told = raised(call, value)
                self.assertEqual(told[0], "InvalidNumber")
                self.assertIs(told[1]["value"], value)
            for values in [(value, Strange()), (0, value), (value, 1)]:
                told = raised(live.changes, *values)
                self.assertEqual(told[0], "InvalidNumber")
                self.assertIs(told[1]["value"], value)
        self.assertEqual(len(live), 2)

    def test_nodes_and_users(self):
        live = self.live()
        for value in odd_values() + ["d", (0, 0), "aaaaaaaaa"]:
            told = raised(live.time, value)
            self.assertEqual(told[0], "InvalidPoint")
            self.assertIs(told[1]["value"], value)
        for value in odd_values()[:-1]:
            for call, values in [(live.watch, (value, Strange())), (live.watch, ("u", value)), (live.unwatch, (value, None)),
                                 (live.unwatch, ("u", value)), (live.notices, (value,))]:
                told = raised(call, *values)
                self.assertEqual(told[0], "InvalidName")
                self.assertIs(told[1]["value"], value)

    def test_a_removed_node(self):
        live = pair()
        live.edit(("node", "c"))
        self.assertIsNone(live.time("c"))
        live.revert(0)
        self.assertEqual(raised(live.time, "c"), ("InvalidPoint", {"value": "c"}))
        live.edit(("node", "c"))


class Notices(unittest.TestCase):
    def test_each_comes_once(self):
        live = pair()
        live.watch("u", "a")
        live.watch("u", "a")
        live.edit(("light", "a", 1))
        self.assertEqual((live.notices("u"), live.notices("u")), ([(1, "a", None, 1)], []))
        live.edit(("light", "a", 0))
        self.assertEqual((live.notices("v"), live.notices("u"), live.notices("u")), ([], [(2, "a", 1, 0)], []))

    def test_begin_and_cease(self):
        live = pair()
        live.unwatch("u", "a")
        live.edit(("light", "a", 9))
        live.watch("u", "a")
        live.edit(("light", "a", 8))
        live.unwatch("u", "a")
        live.edit(("light", "a", 7))
        live.unwatch("u", "a")
        live.watch("u", "a")
        live.edit(("light", "a", 6))
        self.assertEqual(live.notices("u"), [(2, "a", 9, 8), (4, "a", 7, 6)])

    def test_ceasing_keeps_what_was_seen(self):
        live = pair()
        live.watch("u", "b")
        live.edit(("light", "a", 0))
        live.unwatch("u", "b")
        self.assertEqual(live.notices("u"), [(1, "b", None, 4)])

    def test_order_in_a_version(self):
        live = Live(Net(["a", "b", "c"], [("c", "b", 1), ("b", "a", 1)]))
        for node in ["c", "a", "d", "b"]:
            live.watch("u", node)
        live.edit_all([("node", "d"), ("light", "d", 5), ("light", "b", 0)])
        live.revert(0)
        self.assertEqual(live.notices("u"), [(1, "a", None, 1), (1, "b", None, 0), (1, "c", None, 1), (1, "d", None, 5),
                                             (2, "a", 1, None), (2, "b", 0, None), (2, "c", 1, None), (2, "d", 5, None)])

    def test_users_apart(self):
        live = pair()
        live.watch("u", "a")
        live.watch("v", "b")
        live.edit(("light", "a", 0))
        live.watch("v", "a")
        live.edit(("light", "a", -1))
        self.assertEqual(live.notices("v"), [(1, "b", None, 4), (2, "a", 0, -1), (2, "b", 4, 3)])
        self.assertEqual(live.notices("u"), [(1, "a", None, 0), (2, "a", 0, -1)])

    def test_failed_edits_tell_nothing(self):
        live = pair()
        live.watch("u", "a")
        raised(live.edit_all, [("light", "a", 0), ("dark", 5)])
        raised(live.edit, ("light", "q", 0))
        self.assertEqual(live.notices("u"), [])


class Later(unittest.TestCase):
    def test_what_is_passed_and_returned(self):
        live = pair()
        actions = [("light", "a", 1), ("light", (0, 1), 2)]
        copy = list(actions)
        live.watch("u", "b")
        changes = live.edit_all(actions)
        self.assertEqual(actions, copy)
        actions.clear()
        changes.clear()
        for made in [live.lights, live.lights_at(1), live.changes(0, 1), live.net.nodes, live.net.fuses, live.net_at(1).nodes]:
            made.clear()
        self.assertEqual((live.lights, live.lights_at(1)), ([("a", 1), ((0, 1), 2)],) * 2)
        self.assertEqual(live.changes(0, 1), [("a", None, 1), ("b", None, 5)])
        told = live.notices("u")
        told.append(None)
        self.assertEqual((live.notices("u"), live.net.nodes, len(live.net)), ([], ["a", "b"], 1))

    def test_two_live_nets_of_one_net(self):
        net = Net(["a", "b"], [("a", "b", 4)])
        one, other = Live(net), Live(net)
        one.edit(("length", 0, 2))
        one.edit(("light", "a", 0))
        self.assertEqual((net.length, other.net.length, other.lights, len(other)), (4, 4, [], 1))


class Drawn(Checks):
    def test_against_the_model(self):
        for seed in range(40):
            random = Random(seed)
            nodes, fuses = random_net(random, most_nodes=4, most_fuses=5)
            live, model = Live(Net(nodes, fuses)), Model(nodes, fuses)
            watched, due = {"ann": [], "bob": []}, {"ann": [], "bob": []}
            for _ in range(25):
                user, node = random.choice(["ann", "bob"]), random.choice(WORDS)
                if random.random() < 0.4:
                    live.watch(user, node)
                    watched[user] = list(dict.fromkeys(watched[user] + [node]))
                if random.random() < 0.15:
                    live.unwatch(user, node)
                    watched[user] = [other for other in watched[user] if other != node]
                changes = self.step(random, live, model)
                number = len(model.versions) - 1
                self.assertEqual(changes, model.changes(number - 1, number))
                for name in due:
                    due[name] += [(number,) + change for change in changes if change[0] in watched[name]]
                if random.random() < 0.2:
                    self.assertEqual(live.notices(user), due[user])
                    due[user] = []
                self.check_last(live, model)
            self.check_all(live, model)

    def step(self, random, live, model):
        """Makes one version in both; returns the changes."""
        choice = random.random()
        if choice < 0.15:
            version = random.randrange(len(model.versions))
            model.versions.append(model.versions[version])
            return live.revert(version)
        if choice < 0.35:
            made, edits = model.versions[-1], []
            for _ in range(random.randint(0, 4)):
                edits.append(good_edit(random, made))
                made = model.after(made, edits[-1])
            model.versions.append(made)
            return live.edit_all(edits)
        edit = good_edit(random, model.versions[-1])
        model.versions.append(model.after(model.versions[-1], edit))
        return live.edit(edit)

    def check_all(self, live, model):
        """All versions, and the changes between any two of them."""
        for number, (nodes, fuses, lights) in enumerate(model.versions):
            self.assertEqual((live.net_at(number), live.lights_at(number)), (Net(nodes, fuses), lights))
            fire = live.fire_at(number)
            self.assertEqual(None if fire is None else (fire.net, fire.lights), (Net(nodes, fuses), lights) if lights else None)
            for other in range(len(model.versions)):
                self.assertEqual(live.changes(number, other), model.changes(number, other))


if __name__ == "__main__":
    unittest.main()
