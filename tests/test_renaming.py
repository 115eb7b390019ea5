"""Renamed nodes rename the results; fuses that are turned round, or stand in another order, change nothing else."""

import unittest
from random import Random

from cutting import random_lights, random_net
from fusenets.accounts import account, chain, check_account, reasons
from fusenets.console import Console
from fusenets.courses import Course
from fusenets.fires import Fire
from fusenets.guarding import flow, guard
from fusenets.joining import Chain, joined
from fusenets.journals import Journal, Replica, recover
from fusenets.ladders import Ladder
from fusenets.leaving import best_to_shorten, critical_length, end_by_length, superfluous, times_without
from fusenets.live import Live
from fusenets.machine import Machine
from fusenets.nets import Net
from fusenets.ratios import Ratio
from fusenets.runs import Run
from fusenets.simplifying import after_steps, derivation, simplified, table
from fusenets.texts import format_fire, parse_fire
from fusenets.watching import contradiction, explaining, light_time, node_to_watch, suspects
from fusenets.workshop import Workshop
from stepping import random_machine
from test_courses import random_rules

NAMES = {node: name for node, name in zip("abcdefgh", ["k", "zz", "m", "aa", "q", "b", "xyz", "a"])}


def renamed(value):
    """A value, at any depth, with other nodes; dicts by their keys, too."""
    if isinstance(value, str):
        return NAMES.get(value, value)
    if isinstance(value, (list, tuple)):
        return value.__class__(map(renamed, value))
    if isinstance(value, dict):
        return {renamed(key): renamed(item) for key, item in value.items()}
    if isinstance(value, Net):
        return Net(renamed(value.nodes), renamed(value.fuses))
    return value


class Moved:
    """A net whose fuses are turned round and put in another order."""

    def __init__(self, random, nodes, fuses):
        self.fuses = fuses
        self.order = random.sample(range(len(fuses)), len(fuses))
        self.turned = [random.random() < 0.5 for _ in fuses]
        self.net = Net(nodes, [self.fuse(fuse) for fuse in self.order])

    def fuse(self, fuse):
        """A fuse, turned round or not."""
        one, other, length = self.fuses[fuse]
        return (other, one, length) if self.turned[fuse] else (one, other, length)

    def index(self, fuse):
        """The new index of a fuse."""
        return self.order.index(fuse)

    def side(self, fuse, side):
        """The new side of a side."""
        return 1 - side if self.turned[fuse] else side

    def point(self, point):
        """The new point for a point."""
        if isinstance(point, str):
            return point
        fuse, distance = point
        return self.index(fuse), self.fuses[fuse][2] - distance if self.turned[fuse] else distance

    def part(self, fuse, start, end):
        """The new part for a part of a fuse."""
        ends = [self.point((fuse, start)), self.point((fuse, end))]
        low, high = sorted([ends[0][1], ends[1][1]], key=lambda number: Ratio(1) * number)
        return ends[0][0], low, high

    def lights(self, lights):
        """The new lights for lights."""
        return [(self.point(point), time) for point, time in lights]

    def rules(self, rules):
        """The new rules for rules."""
        result = dict(rules)
        result["valves"] = [(self.index(fuse), self.side(fuse, side)) for fuse, side in rules.get("valves", [])]
        result["cuts"] = [(*self.point((fuse, at)), time) for fuse, at, time in rules.get("cuts", [])]
        result["triggers"] = [(self.index(fuse), self.point(point), wait) for fuse, point, wait in rules.get("triggers", [])]
        return result

    def events(self, events):
        """The events with the new indexes of fuses, without order."""
        rows = [(time, kind, self.index(index) if kind == "fuse" else index) for time, kind, index in events]
        return sorted([(str(time), kind, index) for time, kind, index in rows])


def drawn(random):
    """Nodes, fuses, at least one, and lights."""
    nodes, fuses = random_net(random)
    while not fuses:
        nodes, fuses = random_net(random)
    return nodes, fuses, random_lights(random, nodes, fuses)


class Renamed(unittest.TestCase):
    def test_courses_and_single_fuses(self):
        random = Random(1)
        for _ in range(60):
            nodes, fuses, lights = drawn(random)
            rules = random_rules(random, nodes, fuses, lights)
            fire = Fire(Net(nodes, fuses), lights)
            other = Fire(renamed(fire.net), renamed(lights))
            one, two = Course(fire, **rules), Course(other, **renamed(rules))
            self.assertEqual((renamed(one.times()), one.end(), one.events()), (two.times(), two.end(), two.events()))
            self.assertEqual(superfluous(fire), superfluous(other))
            self.assertEqual(best_to_shorten(fire, 1), best_to_shorten(other, 1))
            self.assertEqual(renamed(times_without(fire, 0)), times_without(other, 0))

    def test_chains_and_ladders(self):
        net = Net(["a", "b", "c", "d", "e"], [("a", "c", 5), ("b", "d", 1), ("a", "b", 1), ("d", "e", 7)])
        one, two = Chain(net, "a", "d", 10 ** 20, first=1, last=5), Chain(renamed(net), "k", "aa", 10 ** 20, first=1, last=5)
        self.assertEqual((one.end(), one.burnt(10 ** 9), one.time_in(77, "e")), (two.end(), two.burnt(10 ** 9), two.time_in(77, renamed("e"))))
        one, two = Ladder(net, ("a", "b"), ("c", "d"), 99), Ladder(renamed(net), ("k", "zz"), ("m", "aa"), 99)
        self.assertEqual(one.distance((3, "e"), (50, "a")), two.distance((3, renamed("e")), (50, "k")))
        other = Net(["f", "g"], [("f", "g", 2)])
        self.assertEqual(renamed(joined(net, other, [("c", "g")])), joined(renamed(net), renamed(other), renamed([("c", "g")])))

    def test_observations(self):
        random = Random(2)
        for _ in range(80):
            nodes, fuses, lights = drawn(random)
            net = Net(nodes, fuses)
            seen = {node: time for node, time in Fire(net, lights[:1]).times().items() if time is not None and random.random() < 0.6} or {nodes[0]: 1}
            if random.random() < 0.3:
                seen[nodes[0]] = 2
            other, told = renamed(net), renamed(seen)
            self.assertEqual(renamed(contradiction(net, seen)), contradiction(other, told))
            self.assertEqual(explaining(net, seen), explaining(other, told))
            self.assertEqual(renamed(suspects(net, seen)), suspects(other, told))
            self.assertEqual(renamed(node_to_watch(net, seen)), node_to_watch(other, told))
            self.assertEqual(light_time(net, seen, lights[0][0]), light_time(other, told, renamed(lights[0][0])))

    def test_workshop_texts_and_console(self):
        random = Random(3)
        for _ in range(40):
            nodes, fuses, lights = drawn(random)
            net, more = Net(nodes, fuses), Net(["g", "h"], [("g", "h", 2)])
            shops = [Workshop(), Workshop()]
            pairs = [(nodes[0], "h")]
            for action in [("net", "n", net), ("lights", "n", lights), ("net", "o", more), ("lights", "o", [("h", 1)]), ("join", "n", "o", pairs)]:
                shops[0].act("u", action)
                shops[1].act("u", action[:2] + renamed(action[2:]))
            self.assertEqual(renamed(shops[0].net_of("n")), shops[1].net_of("n"))
            self.assertEqual(renamed(shops[0].lights_of("n")), shops[1].lights_of("n"))
            text = format_fire(shops[0].fire_of("n"))
            other = "\n".join([" ".join([NAMES.get(word, word) for word in line.split(" ")]) for line in text.split("\n")])
            self.assertEqual((format_fire(shops[1].fire_of("n")), parse_fire(other).lights), (other, renamed(parse_fire(text).lights)))
            consoles = [Console(), Console()]
            for console, shop in zip(consoles, shops):
                now = shop.net_of("n")
                console.execute(f"net u n {','.join(now.nodes)} " + ",".join([f"{one}:{end}:{length}" for one, end, length in now.fuses]))
            self.assertEqual(consoles[0].execute("best n"), consoles[1].execute("best n"))


    def test_accounts(self):
        random = Random(15)
        for _ in range(60):
            nodes, fuses, lights = drawn(random)
            rules = random_rules(random, nodes, fuses, lights)
            fire = Fire(Net(nodes, fuses), lights)
            other = Fire(renamed(fire.net), renamed(lights))
            one, two = Course(fire, **rules), Course(other, **renamed(rules))
            self.assertEqual([(time, renamed(point), reason) for time, point, reason in account(one)], account(two))
            self.assertTrue(check_account(other, account(two), **renamed(rules)))
            for _, point, _ in account(one):
                self.assertEqual((renamed(chain(one, point)), reasons(one, point)), (chain(two, renamed(point)), reasons(two, renamed(point))))

    def test_live_nets_and_guards(self):
        random = Random(16)
        for _ in range(40):
            nodes, fuses, lights = drawn(random)
            net = Net(nodes, fuses)
            one, two = Live(net), Live(renamed(net))
            one.watch("u", nodes[0])
            two.watch("u", renamed(nodes[0]))
            actions = [("light", point, time) for point, time in lights] + [("fuse", nodes[0], nodes[-1], 1), ("dark", 0)]
            for action in actions:
                self.assertEqual(renamed(one.edit(action)), two.edit(action[:1] + renamed(action[1:])))
            self.assertEqual((renamed(one.lights), renamed(one.net)), (two.lights, two.net))
            self.assertEqual(renamed(one.changes(0, len(one) - 1)), two.changes(0, len(two) - 1))
            self.assertEqual(renamed(one.notices("u")), two.notices("u"))
            for node in nodes:
                fire, other = Fire(net, lights), Fire(renamed(net), renamed(lights))
                self.assertEqual((guard(fire, node), flow(fire, node)), (guard(other, renamed(node)), flow(other, renamed(node))))


    def test_simpler_nets(self):
        random = Random(17)
        for _ in range(60):
            nodes, fuses, _ = drawn(random)
            keep = random.sample(nodes, random.randint(1, len(nodes)))[:6]
            one, two = Net(nodes, fuses), renamed(Net(nodes, fuses))
            self.assertEqual([(renamed(pair), length) for pair, length in table(one, keep).items()], list(table(two, renamed(keep)).items()))
            self.assertEqual(renamed(simplified(one, keep)), simplified(two, renamed(keep)))
            steps = [(step[0],) + renamed(step[1:]) for step in derivation(one, keep)]
            self.assertEqual(steps, derivation(two, renamed(keep)))
            self.assertEqual(renamed(after_steps(one, keep, derivation(one, keep))), after_steps(two, renamed(keep), steps))

    def test_journals_and_replicas(self):
        commands = ["net u n a,b,c a:b:4,b:c:2", "lights u n a:0,1@1:2", "scale u n 1/2", "net u o g,h g:h:1", "join u n o c:g", "lights u n h:0", "undo u", "redo u"]
        # The names of nets and users are letters that are no nodes here.
        words = [[",".join([":".join([NAMES.get(item, item) for item in part.split(":")]) for part in word.split(",")]) for word in command.split(" ")] for command in commands]
        others = [" ".join(row) for row in words]
        one, two = Journal(), Journal()
        for command, other in zip(commands, others):
            self.assertEqual((one.execute(command), two.execute(other)), ("ok", "ok"))
        self.assertEqual([line.split(" #")[0].split(" ", 1)[1] for line in two.text().split("\n")], others)
        self.assertEqual((one.execute("end n"), one.execute("time n c")), (two.execute("end n"), recover(two.text()).execute(f"time n {NAMES['c']}")))
        replicas = [Replica("v"), Replica("v")]
        for replica, told in zip(replicas, (commands, others)):
            replica.merge([(stamp, "u", command) for stamp, command in enumerate(told, 1)])
            self.assertEqual(replica.skipped(), [])
        self.assertEqual(replicas[0].execute("end n"), replicas[1].execute("end n"))
        self.assertEqual(replicas[1].execute("last n"), " ".join([NAMES.get(word, word) for word in replicas[0].execute("last n").split(" ")]))

    def test_machines_and_runs(self):
        for seed in range(150):
            nodes, fuses, marks, lights, rules = random_machine(Random(seed))
            one = Machine(Net(nodes, fuses), marks, lights, rules)
            moved = [((kind, renamed(what) if kind == "burn" else what), condition, [action[:1] + (renamed(action[1]),) + action[2:] if action[0] == "light" else action for action in actions])
                     for (kind, what), condition, actions in rules]
            two = Machine(renamed(Net(nodes, fuses)), marks, renamed(lights), moved)
            log = [(time, kind, renamed(what) if kind == "burn" else what, cause) for time, kind, what, cause in one.log()]
            self.assertEqual((log, renamed(list(one.times().items())), one.variables()), (two.log(), list(two.times().items()), two.variables()))
            run = Run(two)
            run.step()
            self.assertEqual(Run.resumed(two, run.save()).log(), log[:len(run.log())])


class Turned(unittest.TestCase):
    def test_courses(self):
        random = Random(4)
        for _ in range(80):
            nodes, fuses, lights = drawn(random)
            rules = random_rules(random, nodes, fuses, lights)
            moved = Moved(random, nodes, fuses)
            one = Course(Fire(Net(nodes, fuses), lights), **rules)
            two = Course(Fire(moved.net, moved.lights(lights)), **moved.rules(rules))
            self.assertEqual((one.times(), one.end()), (two.times(), two.end()))
            self.assertEqual(moved.events(one.events()), sorted([(str(time), kind, index) for time, kind, index in two.events()]))
            for fuse, (_, _, length) in enumerate(fuses):
                self.assertEqual(one.burnt_out(fuse), two.burnt_out(moved.index(fuse)))
                for part in range(4):
                    self.assertEqual(one((fuse, length * Ratio(part, 3))), two(moved.point((fuse, length * Ratio(part, 3)))))

    def test_single_fuses(self):
        random = Random(5)
        for _ in range(60):
            nodes, fuses, lights = drawn(random)
            moved = Moved(random, nodes, fuses)
            one, two = Fire(Net(nodes, fuses), lights), Fire(moved.net, moved.lights(lights))
            self.assertEqual(sorted([moved.index(fuse) for fuse in superfluous(one)]), superfluous(two))
            lit = [point[0] for point, _ in one.lights if not isinstance(point, str)]
            for fuse in range(len(fuses)):
                self.assertEqual(times_without(one, fuse), times_without(two, moved.index(fuse)))
                if fuse not in lit:
                    self.assertEqual(critical_length(one, fuse), critical_length(two, moved.index(fuse)))
                    self.assertEqual(end_by_length(one, fuse), end_by_length(two, moved.index(fuse)))

    def test_observations(self):
        random = Random(6)
        for _ in range(80):
            nodes, fuses, lights = drawn(random)
            moved = Moved(random, nodes, fuses)
            net = Net(nodes, fuses)
            seen = {node: time for node, time in Fire(net, lights[:1]).times().items() if time is not None and random.random() < 0.6} or {nodes[0]: 1}
            self.assertEqual(contradiction(net, seen), contradiction(moved.net, seen))
            self.assertEqual((suspects(net, seen), node_to_watch(net, seen)), (suspects(moved.net, seen), node_to_watch(moved.net, seen)))
            parts = sorted([tuple(map(str, moved.part(*row))) for row in explaining(net, seen)])
            self.assertEqual(parts, sorted([tuple(map(str, row)) for row in explaining(moved.net, seen)]))

    def test_scaled_single_fuses(self):
        random = Random(7)
        for _ in range(40):
            nodes, fuses, lights = drawn(random)
            number = Ratio(random.randint(1, 10 ** 20), random.randint(1, 10 ** 20))
            fire = Fire(Net(nodes, fuses), lights)
            other = Fire(fire.net * number, [(point if isinstance(point, str) else (point[0], point[1] * number), time * number) for point, time in lights])
            lit = [point[0] for point, _ in fire.lights if not isinstance(point, str)]
            self.assertEqual(superfluous(fire), superfluous(other))
            best = best_to_shorten(fire, 1)
            self.assertEqual(None if best is None else (best[0], best[1] * number), best_to_shorten(other, number))
            for fuse in range(len(fuses)):
                if fuse not in lit:
                    least, rows = critical_length(fire, fuse), end_by_length(fire, fuse)
                    self.assertEqual(None if least is None else least * number, critical_length(other, fuse))
                    told = None if rows is None else [(length * number, end * number, slope) for length, end, slope in rows]
                    self.assertEqual(told, end_by_length(other, fuse))


if __name__ == "__main__":
    unittest.main()
