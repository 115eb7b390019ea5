"""Multiplying all lengths and times by a positive number multiplies all times, in each module."""

import unittest
from random import Random

from cutting import random_lights, random_net, random_point, random_tree
from fusenets.accounts import account, chain, check_account, reasons
from fusenets.burning import burnt, fronts, steps, time_for
from fusenets.centre import best_points, reach, reach_along
from fusenets.certificates import check_labels, labels_for, way_sum, way_to
from fusenets.console import Console
from fusenets.courses import Course
from fusenets.fires import Fire
from fusenets.guarding import flow, guard
from fusenets.joining import Chain, joined
from fusenets.journals import Journal, Replica, recover
from fusenets.ladders import Ladder
from fusenets.live import Live
from fusenets.machine import Machine
from fusenets.measuring import is_closed, measurable, plan, plan_time, states
from fusenets.nets import Net
from fusenets.ratios import Ratio
from fusenets.runs import Run
from fusenets.simplifying import after_steps, agree, derivation, simplified, table
from fusenets.texts import format_fire, parse_fire, parse_number
from fusenets.trees import apart, cover, fewest, is_apart, is_cover, least_time
from fusenets.watching import contradiction, explaining, light_time, node_to_watch, suspects
from fusenets.workshop import Workshop
from stepping import random_machine
from test_courses import random_rules


class Scaled:
    """A fire whose lengths, distances and times are multiplied by a number."""

    def __init__(self, random):
        self.number = random.choice([2, Ratio(1, 3), Ratio(random.randint(1, 10 ** 20), random.randint(1, 10 ** 20))])
        self.nodes, self.fuses = random_net(random)
        while not self.fuses:
            self.nodes, self.fuses = random_net(random)
        self.lights = random_lights(random, self.nodes, self.fuses)
        self.net = Net(self.nodes, self.fuses)
        self.fire = Fire(self.net, self.lights)
        self.big_net = self.net * self.number
        self.big_fire = Fire(self.big_net, self.lights_moved(self.lights))

    def moved(self, value):
        """A value, at any depth, with its Ratios multiplied; indexes stay."""
        if isinstance(value, (list, tuple)):
            return value.__class__(map(self.moved, value))
        if isinstance(value, dict):
            return {key: self.moved(item) for key, item in value.items()}
        return value * self.number if isinstance(value, Ratio) else value

    def point(self, point):
        """A point with its distance multiplied."""
        return point if isinstance(point, str) else (point[0], point[1] * self.number)

    def lights_moved(self, lights):
        """Lights with distances and times multiplied."""
        return [(self.point(point), time * self.number) for point, time in lights]

    def rules(self, rules):
        """Rules of a course with all numbers multiplied."""
        found = dict(rules)
        if "delays" in rules:
            found["delays"] = {node: wait * self.number for node, wait in rules["delays"].items()}
        found["cuts"] = [(fuse, at * self.number, time * self.number) for fuse, at, time in rules.get("cuts", ())]
        found["triggers"] = [(fuse, self.point(point), wait * self.number) for fuse, point, wait in rules.get("triggers", ())]
        return found


def cases(seed, number=40):
    """Drawn fires."""
    random = Random(seed)
    return [(random, Scaled(random)) for _ in range(number)]


class Stages(unittest.TestCase):
    def test_fires(self):
        for random, case in cases(1):
            one, two = case.fire, case.big_fire
            self.assertEqual(case.moved([one.times(), one.end(), one.last(), one.meetings()]), [two.times(), two.end(), two.last(), two.meetings()])
            point = random_point(random, case.nodes, case.fuses)
            self.assertEqual((case.moved(one(point)), one.source(point)), (two(case.point(point)), two.source(case.point(point))))
            self.assertEqual(case.moved(case.net.distance(case.nodes[0], point)), case.big_net.distance(case.nodes[0], case.point(point)))

    def test_burning(self):
        for random, case in cases(2):
            time = Ratio(random.randint(-4, 20), 2)
            self.assertEqual(case.moved(burnt(case.fire, time)), burnt(case.big_fire, time * case.number))
            self.assertEqual(fronts(case.fire, time), fronts(case.big_fire, time * case.number))
            self.assertEqual(case.moved(list(steps(case.fire))), list(steps(case.big_fire)))
            length = Ratio(random.randint(1, 30), 3)
            self.assertEqual(case.moved(time_for(case.fire, length)), time_for(case.big_fire, length * case.number))

    def test_certificates(self):
        for random, case in cases(3):
            point = random_point(random, case.nodes, case.fuses)
            way = way_to(case.fire, point)
            self.assertEqual(way, way_to(case.big_fire, case.point(point)))
            self.assertEqual(case.moved(way_sum(case.fire, point, way)), way_sum(case.big_fire, case.point(point), way))
            labels = labels_for(case.fire)
            self.assertEqual(case.moved(labels), labels_for(case.big_fire))
            self.assertEqual(check_labels(case.fire, labels), check_labels(case.big_fire, case.moved(labels)))

    def test_centre(self):
        for random, case in cases(4):
            point = random_point(random, case.nodes, case.fuses)
            self.assertEqual(case.moved(reach(case.net, point)), reach(case.big_net, case.point(point)))
            self.assertEqual(case.moved(reach_along(case.net, 0)), reach_along(case.big_net, 0))
            self.assertEqual(case.moved(best_points(case.net)), best_points(case.big_net))

    def test_trees(self):
        random = Random(5)
        for _ in range(30):
            nodes, fuses = random_tree(random)
            number, time = Ratio(random.randint(1, 99), random.randint(1, 99)), Ratio(random.randint(1, 20), random.randint(1, 3))
            net, more = Net(nodes, fuses), Net(nodes, fuses) * number
            self.assertEqual(fewest(net, time), fewest(more, time * number))
            self.assertEqual(least_time(net, 2) * number, least_time(more, 2))
            for points, check in [(cover(net, time), is_cover), (apart(net, time), is_apart)]:
                moved = [point if isinstance(point, str) else (point[0], point[1] * number) for point in points]
                self.assertTrue(check(net, time, points) and check(more, time * number, moved))

    def test_courses_and_accounts(self):
        for random, case in cases(6):
            rules = random_rules(random, case.nodes, case.fuses, case.lights)
            one, two = Course(case.fire, **rules), Course(case.big_fire, **case.rules(rules))
            self.assertEqual(case.moved([one.times(), one.end(), one.events(), one.burnt_out(0)]), [two.times(), two.end(), two.events(), two.burnt_out(0)])
            self.assertEqual(case.moved(account(one)), account(two))
            self.assertTrue(check_account(case.big_fire, case.moved(account(one)), **case.rules(rules)))
            for _, point, _ in account(one):
                self.assertEqual(reasons(one, point), reasons(two, case.moved(point)))
                self.assertEqual(case.moved(chain(one, point)), chain(two, case.moved(point)))

    def test_chains_and_ladders(self):
        random = Random(7)
        link = Net(["a", "b", "c", "d"], [("a", "c", 5), ("b", "d", 1), ("a", "b", 1), ("c", "d", 3)])
        for _ in range(20):
            number = Ratio(random.randint(1, 99), random.randint(1, 99))
            one = Chain(link, "a", "d", 10 ** 20, first=1, last=9)
            two = Chain(link * number, "a", "d", 10 ** 20, first=number * 1, last=number * 9)
            self.assertEqual((one.end() * number, one.burnt(77) * number, one.time_in(5, "c") * number), (two.end(), two.burnt(number * 77), two.time_in(5, "c")))
            one, two = Ladder(link, ("a", "b"), ("c", "d"), 10 ** 20), Ladder(link * number, ("a", "b"), ("c", "d"), 10 ** 20)
            self.assertEqual(one.distance((1, "a"), (9, "d")) * number, two.distance((1, "a"), (9, "d")))
            self.assertEqual(joined(link, link, [(node, node) for node in "abcd"]) * number, joined(link * number, link * number, [(node, node) for node in "abcd"]))

    def test_observations(self):
        for random, case in cases(8):
            seen = {node: time for node, time in case.fire.times().items() if time is not None and random.random() < 0.5} or {case.nodes[0]: Ratio(1)}
            told = case.moved(seen)
            point = random_point(random, case.nodes, case.fuses)
            self.assertEqual(contradiction(case.net, seen), contradiction(case.big_net, told))
            self.assertEqual(case.moved(light_time(case.net, seen, point)), light_time(case.big_net, told, case.point(point)))
            self.assertEqual(case.moved(explaining(case.net, seen)), explaining(case.big_net, told))
            self.assertEqual(case.moved(suspects(case.net, seen)), suspects(case.big_net, told))
            self.assertEqual(node_to_watch(case.net, seen), node_to_watch(case.big_net, told))

    def test_workshop_console_and_texts(self):
        for random, case in cases(9, 20):
            shops = [Workshop(), Workshop()]
            for shop, net, lights in [(shops[0], case.net, case.lights), (shops[1], case.big_net, case.big_fire.lights)]:
                shop.act("u", ("net", "n", net))
                shop.act("u", ("lights", "n", lights))
            self.assertEqual(case.moved(shops[0].fire_of("n").times()), shops[1].fire_of("n").times())
            shops[0].act("u", ("scale", "n", case.number))
            self.assertEqual((shops[0].net_of("n"), shops[0].lights_of("n")), (shops[1].net_of("n"), shops[1].lights_of("n")))
            self.assertEqual(case.moved(parse_fire(format_fire(case.fire)).times()), parse_fire(format_fire(case.big_fire)).times())
            console = Console()
            console.execute(f"net u n {','.join(case.nodes)} " + ",".join(f"{one}:{other}:{length}" for one, other, length in case.fuses))
            console.execute("lights u n " + ",".join(f"{point if isinstance(point, str) else '@'.join(map(str, point))}:{time}" for point, time in case.fire.lights))
            console.execute(f"scale u n {case.number}")
            end = case.big_fire.end()
            self.assertEqual(console.execute("end n"), "never" if end is None else str(end))

    def test_live_nets(self):
        for random, case in cases(10):
            one, two = Live(case.net), Live(case.big_net)
            for live in (one, two):
                live.watch("u", case.nodes[0])
            for light in case.lights:
                point, time = light
                self.assertEqual(case.moved(one.edit(("light", point, time))), two.edit(("light", case.point(point), time * case.number)))
            changes = one.edit_all([("length", 0, 9), ("node", "z"), ("fuse", "z", case.nodes[0], 2)])
            number = case.number
            self.assertEqual(case.moved(changes), two.edit_all([("length", 0, number * 9), ("node", "z"), ("fuse", "z", case.nodes[0], number * 2)]))
            self.assertEqual(case.moved(one.changes(0, len(one) - 1)), two.changes(0, len(two) - 1))
            self.assertEqual(case.moved(one.notices("u")), two.notices("u"))

    def test_measuring(self):
        random = Random(11)
        for _ in range(10):
            timers = [Ratio(random.randint(1, 9)) for _ in range(random.randint(1, 3))]
            number = Ratio(random.randint(1, 99), random.randint(1, 99))
            more = [timer * number for timer in timers]
            told = [(time * number, tuple((rest * number, lit) for rest, lit in rests)) for time, rests in states(timers)]
            self.assertTrue(is_closed(more, told))
            self.assertEqual(len(told), len(states(more)))
            self.assertEqual([time * number for time in measurable(timers)], measurable(more))
            for time in measurable(timers)[:5]:
                self.assertEqual(plan_time(more, plan(timers, time)), time * number)
                self.assertEqual(plan_time(timers, plan(more, time * number)), time)

    def test_guards(self):
        for random, case in cases(12):
            prices = [random.randint(0, 5) for _ in case.fuses]
            for node in case.nodes:
                self.assertEqual(guard(case.fire, node, prices), guard(case.big_fire, node, prices))
                self.assertEqual(flow(case.fire, node, prices), flow(case.big_fire, node, prices))

    def test_simpler_nets(self):
        for random, case in cases(13):
            keep = random.sample(case.nodes, random.randint(1, len(case.nodes)))[:6]
            self.assertEqual(case.moved(table(case.net, keep)), table(case.big_net, keep))
            self.assertEqual(simplified(case.net, keep) * case.number, simplified(case.big_net, keep))
            steps = derivation(case.net, keep)
            self.assertEqual(steps, derivation(case.big_net, keep))
            for number in range(len(steps) + 1):
                one, two = after_steps(case.net, keep, steps[:number]), after_steps(case.big_net, keep, steps[:number])
                self.assertEqual(one * case.number, two)
                self.assertTrue(agree(one, case.net, keep))

    def test_journals_and_replicas(self):
        number = Ratio(7, 3)
        for make in (Journal, lambda: Replica("u")):
            one, two = make(), make()
            for doer, by in ((one, Ratio(1)), (two, number)):
                for command in [f"net u n a,b,c a:b:{by * 4},b:c:{by * 2}", f"lights u n a:{by},1@{by}:{by * 2}", "scale u n 1/2", "undo u"]:
                    self.assertEqual(doer.execute(command), "ok")
            for question in ("end n", "time n b", "time n c"):
                self.assertEqual(parse_number(one.execute(question)) * number, parse_number(two.execute(question)))
                if make is Journal:
                    self.assertEqual(recover(two.text()).execute(question), two.execute(question))


class Machines(unittest.TestCase):
    """Machines whose terms are only times and the present time."""

    def setUp(self):
        self.number = Ratio(1)

    def point(self, point):
        """A point with its distance multiplied."""
        return point if isinstance(point, str) else (point[0], point[1] * self.number)

    def condition(self, random, depth=2):
        """A condition, and the one with its times multiplied."""
        choice = random.random()
        if depth == 0 or choice < 0.5:
            return None, None
        if choice < 0.8:
            sign, time = random.choice(["<", "<=", "=="]), random.randint(-3, 9)
            return (sign, ("now",), time), (sign, ("now",), time * self.number)
        one, two = self.condition(random, depth - 1)
        return (("not", one), ("not", two)) if choice < 0.9 else (("and", one, None), ("and", two, None))

    def rule(self, random, rule):
        """A rule whose terms are times, and the one with its times multiplied."""
        (kind, what), _, actions = rule
        made, moved = [], []
        for action in actions:
            time = random.choice([0, 1, 2, 5, -1]) if random.random() < 0.8 else ("now",)
            more = time if time == ("now",) else time * self.number
            point = self.point(action[1]) if action[0] in ("light", "cut") else action[1]
            is_term = action[0] in ("light", "send", "let")
            made.append((action[0], action[1], time) if is_term else action)
            moved.append((action[0], point, more) if is_term else (action[0], point) + action[2:])
        condition, other = self.condition(random)
        event = (kind, self.point(what) if kind == "burn" else what * self.number if kind == "at" else what)
        return ((kind, what), condition, made), (event, other, moved)

    def moved(self, log):
        """A log with its times, and the distances of its points, multiplied."""
        rows = []
        for time, kind, what, cause in log:
            if kind == "at" or kind == "burn":
                what = what * self.number if kind == "at" else self.point(what)
            rows.append((time * self.number, kind, what, cause))
        return rows

    def test_machines_and_runs(self):
        random, calls = Random(14), 0
        for _ in range(150):
            self.number = random.choice([2, Ratio(1, 3), Ratio(random.randint(1, 10 ** 20), random.randint(1, 10 ** 20))])
            nodes, fuses, marks, lights, rules = random_machine(random)
            pairs = [self.rule(random, rule) for rule in rules]
            net = Net(nodes, fuses)
            one = Machine(net, marks, lights, [first for first, _ in pairs])
            two = Machine(net * self.number, [self.point(mark) for mark in marks], [(self.point(point), time * self.number) for point, time in lights], [other for _, other in pairs])
            self.assertEqual(self.moved(one.log()), two.log())
            self.assertTrue(two.is_log(self.moved(one.log())))
            self.assertEqual({name: time if time is None else time * self.number for name, time in one.times().items()}, two.times())
            self.assertEqual({name: value * self.number for name, value in one.variables().items()}, two.variables())
            first, second = Run(one), Run(two)
            for _ in range(5):
                self.assertEqual(self.moved(first.step()), second.step())
                self.assertEqual(first.save(), second.save())
            calls += len([entry for entry in one.log() if entry[1] == "call"])
        self.assertGreater(calls, 500)


if __name__ == "__main__":
    unittest.main()
