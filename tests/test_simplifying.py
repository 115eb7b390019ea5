"""Simpler nets, against distances that are found in another way, and steps that are made by hand."""

import unittest
from copy import deepcopy
from itertools import combinations, permutations
from random import Random

from cutting import distances_between, fraction, plain, random_net
from fusenets.errors import InvalidNodes, LimitExceeded
from fusenets.nets import Net
from fusenets.ratios import Ratio
from fusenets.simplifying import after_steps, agree, derivation, simplified, table
from odd import Strange, odd_values, only_ratios, raised

MANY = [one + other for one in "abc" for other in "abcdefghij"]


def three():
    """The net of the document."""
    return Net(["a", "b", "c"], [("a", "b", 4), ("b", "c", 2)])


def far(nodes, fuses, keep):
    """The table of kept nodes, by Floyd and Warshall."""
    found = distances_between(nodes, fuses, [])[2]
    return {(one, other): found[one, other] for index, one in enumerate(keep) for other in keep[index + 1:]}


def drawn(random, most_nodes=7, most_fuses=9):
    """Nodes, fuses and kept nodes in any order."""
    nodes, fuses = random_net(random, most_nodes, most_fuses)
    fuses = [(one, other, random.choice([length, Ratio(length, 3)])) for one, other, length in fuses]
    keep = random.sample(nodes, random.randint(1, min(6, len(nodes))))
    return nodes, fuses, keep


class Model:
    """Steps by the words of the document; a step that is not possible gives None."""

    def __init__(self, nodes, fuses, keep):
        self.nodes, self.keep = list(nodes), keep
        self.fuses = [(one, other, fraction(length)) for one, other, length in fuses]

    def take(self, step):
        """Whether a step of the right form is possible; makes it then."""
        return getattr(self, step[0])(*step[1:])

    def add(self, one, other):
        if one not in self.nodes or other not in self.nodes or one == other or len(self.fuses) == 40:
            return False
        length = distances_between(self.nodes, self.fuses, [])[2][one, other]
        if length is not None:
            self.fuses.append((one, other, length))
        return length is not None

    def drop(self, fuse):
        if not 0 <= fuse < len(self.fuses):
            return False
        rest = self.fuses[:fuse] + self.fuses[fuse + 1:]
        if far(self.nodes, rest, self.keep) != far(self.nodes, self.fuses, self.keep):
            return False
        self.fuses = rest
        return True

    def merge(self, node):
        touching = [fuse for fuse in self.fuses if node in fuse[:2]]
        ends = sum([fuse[:2].count(node) for fuse in self.fuses])
        if node not in self.nodes or node in self.keep or len(touching) != 2 or ends != 2:
            return False
        self.nodes.remove(node)
        others = [one if other == node else other for one, other, _ in touching]
        first = self.fuses.index(touching[0])
        del self.fuses[first]
        self.fuses.remove(touching[1])
        self.fuses.append((*others, touching[0][2] + touching[1][2]))
        return True

    def remove(self, node):
        if node not in self.nodes or node in self.keep or any(node in fuse[:2] for fuse in self.fuses):
            return False
        self.nodes.remove(node)
        return True


def random_step(random, model):
    """A step that is often possible."""
    kind = random.choice(["add", "drop", "drop", "merge", "merge", "remove"])
    nodes = model.nodes + ["z"]
    if kind == "add":
        return (kind, random.choice(nodes), random.choice(nodes))
    if kind == "drop":
        return (kind, random.randint(-1, len(model.fuses)))
    return (kind, random.choice(nodes))


class Known(unittest.TestCase):
    def test_document(self):
        net, keep = three(), ["a", "c"]
        simple = simplified(net, keep)
        self.assertEqual((after_steps(net, keep, [("merge", "b")]) == simple, str(simple.length), after_steps(net, keep, [("drop", 0)])), (True, "6", None))

    def test_kinds(self):
        net = Net(["a", "b", "c", "d"], [("a", "b", Ratio(1, 2)), ("b", "c", 2)])
        told = table(net, ["c", "a", "d"])
        self.assertEqual(list(told.items()), [(("c", "a"), Ratio(5, 2)), (("c", "d"), None), (("a", "d"), None)])
        self.assertTrue(only_ratios(told))
        self.assertEqual(table(net, ["b"]), {})
        self.assertIs(agree(net, net, ["a"]), True)
        self.assertIsInstance(simplified(net, ["a"]), Net)
        self.assertIsInstance(after_steps(net, ["a"], []), Net)
        self.assertIs(derivation(net, ["a"]).__class__, list)

    def test_names_of_arguments(self):
        net, keep = three(), ["a", "c"]
        self.assertEqual(table(net=net, keep=keep), {("a", "c"): 6})
        self.assertTrue(agree(net=net, other=net, keep=keep))
        self.assertEqual(len(simplified(net=net, keep=keep)), 1)
        self.assertEqual(after_steps(net=net, keep=keep, value=derivation(net=net, keep=keep)), Net(["a", "c"], [("a", "c", 6)]))

    def test_simplified_in_the_order_of_keep(self):
        net = Net(["a", "b", "c"], [("a", "b", 1), ("b", "c", 1), ("a", "c", 5)])
        for keep in permutations("abc"):
            pairs = [(one, other) for one, other in combinations(keep, 2) if {one, other} != {"a", "c"}]
            self.assertEqual(simplified(net, list(keep)), Net(list(keep), [pair + (1,) for pair in pairs]))

    def test_agree(self):
        one = three()
        two = Net(["c", "x", "a"], [("a", "c", 9), ("c", "x", 5), ("x", "a", 1)])
        self.assertTrue(agree(one, two, ["a", "c"]) and agree(two, one, ["c", "a"]))
        self.assertFalse(agree(one, Net(["a", "c"], [("a", "c", 5)]), ["a", "c"]))
        self.assertFalse(agree(one, Net(["a", "c"], []), ["a", "c"]))
        self.assertTrue(agree(Net(["a", "b"], []), Net(["b", "a"], [("a", "a", 1)]), ["a", "b"]))

    def test_merge(self):
        net = Net(["a", "b", "c"], [("b", "c", 1), ("a", "b", 4), ("a", "c", 9)])
        self.assertEqual(after_steps(net, ["a", "c"], [("merge", "b")]), Net(["a", "c"], [("a", "c", 9), ("c", "a", 5)]))
        self.assertEqual(after_steps(net, ["a"], [("merge", "b"), ("merge", "c")]), Net(["a"], [("a", "a", 14)]))
        self.assertIsNone(after_steps(net, ["a"], [("merge", "a")]))
        loop = Net(["a", "b"], [("b", "b", 1)])
        self.assertIsNone(after_steps(loop, ["a"], [("merge", "b")]))
        self.assertIsNone(after_steps(loop, ["a"], [("remove", "b")]))
        self.assertEqual(after_steps(loop, ["a"], [("drop", 0), ("remove", "b")]), Net(["a"], []))
        for fuses in [[], [("a", "b", 1)], [("a", "b", 1)] * 3, [("a", "b", 1), ("b", "b", 1)]]:
            self.assertIsNone(after_steps(Net(["a", "b"], fuses), ["a"], [("merge", "b")]))
        double = Net(["a", "b"], [("a", "b", 1), ("b", "a", 2)])
        self.assertEqual(after_steps(double, ["a"], [("merge", "b")]), Net(["a"], [("a", "a", 3)]))

    def test_add(self):
        net = Net(["a", "b", "c", "d"], [("a", "b", 4), ("b", "c", 2)])
        self.assertEqual(after_steps(net, ["a"], [("add", "c", "a")]).fuses[-1], ("c", "a", 6))
        for step in [("add", "a", "a"), ("add", "a", "d"), ("add", "a", "e")]:
            self.assertIsNone(after_steps(net, ["a"], [step]))

    def test_drop_and_remove(self):
        net = Net(["a", "b", "c"], [("a", "b", 4), ("b", "c", 2), ("a", "c", 6)])
        self.assertEqual(after_steps(net, ["a", "c"], [("drop", 0), ("drop", 0), ("remove", "b")]), Net(["a", "c"], [("a", "c", 6)]))
        self.assertIsNone(after_steps(net, ["a", "b"], [("drop", 0)]))
        self.assertIsNone(after_steps(net, ["a", "c"], [("drop", 2), ("drop", 0)]))
        self.assertIsNone(after_steps(net, ["a", "c"], [("remove", "b")]))
        self.assertIsNone(after_steps(net, ["a", "b", "c"], [("drop", 2), ("drop", 0)]))
        self.assertIsNone(after_steps(Net(["a", "b"], []), ["a", "b"], [("remove", "b")]))

    def test_never_more_than_forty(self):
        net = Net(["a", "b"], [("a", "b", 1)] * 39)
        self.assertEqual(len(after_steps(net, ["a"], [("add", "a", "b")])), 40)
        self.assertIsNone(after_steps(net, ["a"], [("add", "a", "b")] * 2))
        self.assertIsNone(after_steps(net, ["a"], [("add", "a", "b")] * 2 + [("drop", 0)]))
        self.assertEqual(len(after_steps(net, ["a"], [("add", "a", "b"), ("drop", 0), ("add", "a", "b")])), 40)

    def test_limit(self):
        for number in (24, 25):
            net = Net(["a", "b"], [("a", "b", 1)] * number)
            self.assertEqual(after_steps(net, ["b", "a"], derivation(net, ["b", "a"])).length, 1)
        for number in (26, 40):
            net = Net(["a", "b"], [("a", "b", 1)] * number)
            self.assertEqual(raised(derivation, net, ["a"]), ("LimitExceeded", {"limit": 25}))
            self.assertEqual(raised(derivation, net, ["a", "c"]), ("InvalidNodes", {"value": ["a", "c"]}))
            self.assertEqual(len(simplified(net, ["a", "b"])), 1)

    def test_six_nodes_all_joined(self):
        keep = MANY[:6]
        net = Net(keep + ["x"], [pair + (9,) for pair in combinations(keep, 2)] + [("x", node, 5) for node in keep] + [("x", "x", 1)] * 4)
        self.assertEqual(len(net), 25)
        simple = simplified(net, keep)
        self.assertEqual((len(simple), simple.length), (15, 135))
        self.assertEqual(sorted(map(str, after_steps(net, keep, derivation(net, keep)).fuses)), sorted(map(str, simple.fuses)))


class Wrong(unittest.TestCase):
    def test_keep(self):
        net = Net(MANY[:7], [(MANY[0], MANY[1], 1)] * 26)
        other = Net(MANY[3:10], [])
        wrong = odd_values() + [("aa",), [], MANY[:7], ["aa", "aa"], ["aa", "zz"], ["aa", None], [["aa"]], [Strange()], "aa", {"aa": 1}, [True]]
        for value in wrong:
            calls = [(table, net, value), (agree, net, other, value), (agree, other, net, value), (simplified, net, value), (derivation, net, value)]
            calls += [(after_steps, net, value, more) for more in (None, [], [None])]
            for call, *values in calls:
                told = raised(call, *values)
                self.assertEqual(told[0], "InvalidNodes")
                self.assertIs(told[1]["value"], value)
        for value in (["aa"], ["ba"]):
            self.assertEqual(raised(agree, net, other, value), ("InvalidNodes", {"value": value}))
            self.assertEqual(raised(agree, other, net, value), ("InvalidNodes", {"value": value}))
        self.assertEqual((table(net, MANY[:6])["aa", "ab"], agree(net, other, [MANY[3], MANY[6]])), (1, True))

    def test_steps(self):
        net, keep = Net(["a", "b", "c"], [("a", "b", 4), ("b", "c", 2), ("a", "c", 6)]), ["a", "c"]
        good = [("drop", 0), ("add", "a", "b"), ("merge", "b")]
        self.assertIsNotNone(after_steps(net, keep, good))
        for value in odd_values() + [tuple(good), {0: good[0]}, "drop", ("drop", 0)]:
            if value.__class__ is not list or value:
                self.assertIsNone(after_steps(net, keep, value))
        for value in odd_values() + [3, -1, "d"]:
            for step in [value, ("drop", value), ("add", value, "b"), ("add", "a", value), ("merge", value), ("remove", value), (value, 0), (value, "a", "b")]:
                self.assertIsNone(after_steps(net, keep, [step]))
                self.assertIsNone(after_steps(net, keep, good[:1] + [step] + good[1:]))
        for step in [("drop",), ("drop", 0, 0), ("add", "a"), ("add", "a", "b", 4), ("merge",), ("merge", "b", "b"), ("remove", "b", 0), ["drop", 0],
                     ("Drop", 0), (b"drop", 0), ("drop", False), ("drop", Ratio(0)), ("drop", "0"), ("", 0), (("drop",), 0)]:
            self.assertIsNone(after_steps(net, keep, [step]), step)
        self.assertIsNone(after_steps(net, keep, good + [("merge", "b")]))

    def test_later_changes(self):
        net, keep, steps = three(), ["a", "c"], [("merge", "b")]
        copies = deepcopy((keep, steps))
        simple, told = simplified(net, keep), table(net, keep)
        made = after_steps(net, keep, steps)
        found = derivation(net, keep)
        self.assertEqual((keep, steps), copies)
        keep.reverse()
        steps.clear()
        told.clear()
        found.clear()
        self.assertEqual((simple.nodes, made.nodes, len(derivation(net, keep)), table(net, ["a", "c"])), (["a", "c"], ["a", "c"], 4, {("a", "c"): 6}))
        self.assertEqual(net, three())


class Drawn(unittest.TestCase):
    def test_tables(self):
        random = Random(1)
        for _ in range(150):
            nodes, fuses, keep = drawn(random)
            net = Net(nodes, fuses)
            wanted = far(nodes, fuses, keep)
            self.assertEqual(list(plain(table(net, keep)).items()), list(wanted.items()))
            other_nodes, other_fuses, _ = drawn(random)
            if all(node in other_nodes for node in keep):
                self.assertEqual(agree(net, Net(other_nodes, other_fuses), keep), far(other_nodes, other_fuses, keep) == wanted)

    def test_simplified(self):
        random = Random(2)
        for _ in range(150):
            nodes, fuses, keep = drawn(random)
            net = Net(nodes, fuses)
            simple = simplified(net, keep)
            wanted = far(nodes, fuses, keep)
            both, direct = {frozenset(pair): size for pair, size in wanted.items()}, []
            for (one, other), length in wanted.items():
                thirds = [node for node in keep if node not in (one, other)]
                sums = [both[frozenset((one, node))] + both[frozenset((node, other))] for node in thirds
                        if both[frozenset((one, node))] is not None and both[frozenset((node, other))] is not None]
                if length is not None and all(length < way for way in sums):
                    direct.append((one, other, length))
            self.assertEqual((simple.nodes, plain(simple.fuses)), (keep, direct))
            self.assertTrue(agree(net, simple, keep))
            self.assertEqual(far(keep, simple.fuses, keep), wanted)
            for index in range(len(simple)):
                self.assertNotEqual(far(keep, simple.fuses[:index] + simple.fuses[index + 1:], keep), wanted)

    def test_fewest_fuses(self):
        random = Random(3)
        for _ in range(40):
            nodes, fuses, _ = drawn(random, most_nodes=6)
            keep = random.sample(nodes, min(4, len(nodes)))
            wanted = far(nodes, fuses, keep)
            lengths = [pair + (length,) for pair, length in wanted.items() if length is not None]
            least = min(number for number in range(len(lengths) + 1) for some in combinations(lengths, number) if far(keep, list(some), keep) == wanted)
            self.assertEqual(len(simplified(Net(nodes, fuses), keep)), least)

    def test_steps(self):
        random = Random(4)
        done = failed = 0
        for _ in range(900):
            nodes, fuses, keep = drawn(random, 5, 6)
            net, model, steps = Net(nodes, fuses), Model(nodes, fuses, keep), []
            for _ in range(random.randint(1, 8)):
                step = random_step(random, model)
                is_possible = model.take(step)
                made = after_steps(net, keep, steps + [step])
                if not is_possible:
                    self.assertIsNone(made)
                    failed += 1
                    continue
                steps.append(step)
                self.assertEqual((made.nodes, plain(made.fuses)), (model.nodes, model.fuses))
                self.assertTrue(agree(net, made, keep))
                done += 1
        self.assertGreater(min(done, failed), 500)

    def test_derivations(self):
        random = Random(5)
        for _ in range(80):
            nodes, fuses, keep = drawn(random, 8, 25)
            net = Net(nodes, fuses)
            steps = derivation(net, keep)
            made = after_steps(net, keep, steps)
            simple = simplified(net, keep)
            self.assertEqual(sorted(made.nodes), sorted(keep))
            self.assertEqual(sorted([tuple(sorted(fuse[:2])) + (str(fuse[2]),) for fuse in made.fuses]),
                             sorted([tuple(sorted(fuse[:2])) + (str(fuse[2]),) for fuse in simple.fuses]))
            model = Model(nodes, fuses, keep)
            self.assertTrue(all([model.take(step) for step in steps]))


if __name__ == "__main__":
    unittest.main()
