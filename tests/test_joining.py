"""Joined nets, and chains against the net that is put together of their links."""

import unittest
from copy import deepcopy
from random import Random

from cutting import random_net, random_point
from fusenets.burning import burnt, steps
from fusenets.errors import InvalidJoin, InvalidNumber, InvalidPoint
from fusenets.fires import Fire
from fusenets.joining import Chain, joined
from fusenets.nets import Net
from fusenets.ratios import Ratio
from odd import Strange, is_ratio, odd_numbers, odd_values, only_ratios, raised

BIG = 10 ** 30


def three():
    """The net of the document."""
    return Net(["a", "b", "c"], [("a", "b", 4), ("b", "c", 2)])


def names(number, start="n"):
    """So many different nodes."""
    return [start + "abcdefghijklmnopqrstuvwxyzab"[index % 26] + "xyz"[index // 26] for index in range(number)]


class Joined(unittest.TestCase):
    def test_known(self):
        whole = joined(Net(["a", "b"], [("a", "b", 1)]), Net(["x", "y"], [("x", "y", 2)]), [("b", "x")])
        self.assertEqual(whole, Net(["a", "b", "y"], [("a", "b", 1), ("b", "y", 2)]))
        self.assertTrue(only_ratios([fuse[2] for fuse in whole.fuses]))
        one, other = Net(["a", "b", "c"], [("c", "a", 1)]), Net(["z", "c", "b", "y"], [("z", "c", 2), ("b", "b", 3), ("y", "b", 4)])
        whole = joined(one=one, other=other, pairs=[("a", "b"), ("b", "c")])
        self.assertEqual(whole, Net(["a", "b", "c", "z", "y"], [("c", "a", 1), ("z", "b", 2), ("a", "a", 3), ("y", "a", 4)]))

    def test_apart_and_the_same_names(self):
        one = three()
        self.assertEqual(joined(one, Net(["d"], []), []).nodes, ["a", "b", "c", "d"])
        self.assertEqual(joined(one, one, [("a", "a"), ("b", "b"), ("c", "c")]), Net(one.nodes, one.fuses * 2))
        self.assertEqual(joined(one, one, [("c", "a"), ("a", "b"), ("b", "c")]).fuses[2:], [("c", "a", 4), ("a", "b", 2)])

    def test_wrong_pairs(self):
        one, other = three(), Net(["x", "y"], [])
        wrong = [("a",), ("a", "x", "y"), ["a", "x"], ("x", "a"), ("a", "a"), ("d", "x"), ("a", None), (None, "x"), ("a", 0), (0, "x"), None,
                 "ax", (["a"], "x"), ("a", Strange())]
        values = odd_values() + [[item] for item in wrong + odd_values()] + [[("b", "y"), item] for item in wrong]
        values += [[("a", "x"), ("a", "y")], [("a", "x"), ("b", "x")], [("a", "x"), ("a", "x")], (("a", "x"),), {"a": "x"}]
        for value in values:
            if isinstance(value, list) and not value:
                continue
            with self.subTest(value=repr(value)), self.assertRaises(InvalidJoin) as caught:
                joined(one, other, value)
            self.assertIs(caught.exception.value, value)

    def test_names_that_both_have(self):
        one, other = three(), Net(["x", "c", "b"], [])
        self.assertEqual(raised(joined, one, other, []), ("InvalidJoin", {"value": "c"}))
        self.assertEqual(raised(joined, one, other, [("a", "c")]), ("InvalidJoin", {"value": "b"}))
        self.assertEqual(joined(one, other, [("a", "c"), ("c", "b")]).nodes, ["a", "b", "c", "x"])
        many = Net(names(30), [])
        self.assertEqual(raised(joined, many, many, []), ("InvalidJoin", {"value": names(30)[0]}))

    def test_limits(self):
        one, other = Net(names(20), []), Net(names(10, "m"), [])
        self.assertEqual(len(joined(one, other, []).nodes), 30)
        more = Net(names(11, "m"), [])
        self.assertEqual(raised(joined, one, more, []), ("LimitExceeded", {"limit": 30}))
        self.assertEqual(len(joined(one, more, [(names(20)[3], names(11, "m")[5])]).nodes), 30)
        loops = [Net(["a"], [("a", "a", 1)] * number) for number in (20, 21)]
        self.assertEqual(len(joined(loops[0], loops[0], [("a", "a")])), 40)
        self.assertEqual(raised(joined, loops[0], loops[1], [("a", "a")]), ("LimitExceeded", {"limit": 40}))
        wide = Net(names(20), [(names(20)[0], names(20)[1], 1)] * 40)
        large = Net(names(11, "m"), [(names(11, "m")[0], names(11, "m")[1], 1)] * 40)
        self.assertEqual(raised(joined, wide, large, []), ("LimitExceeded", {"limit": 30}))

    def test_arguments_stay(self):
        one, other, pairs = three(), three(), [("a", "a"), ("b", "c"), ("c", "b")]
        before = list(pairs)
        joined(one, other, pairs)
        self.assertEqual((one, other, pairs), (three(), three(), before))


def put_together(net, left, right, number):
    """The chain as a net whose nodes are numbered, and for each link a dict from its nodes to those."""
    maps, count, fuses = [], 0, []
    letters = names(60, "k")
    for link in range(number):
        named = {left: maps[-1][right]} if maps else {}
        for node in net.nodes:
            if node not in named:
                named[node] = letters[count]
                count += 1
        maps.append(named)
        fuses += [(named[one], named[other], length) for one, other, length in net.fuses]
    return Net(letters[:count], fuses), maps


class Chains(unittest.TestCase):
    def check(self, net, left, right, number, first, last, random):
        whole, maps = put_together(net, left, right, number)
        lights = [(maps[0][left], first)] if first is not None else []
        lights += [(maps[-1][right], last)] if last is not None else []
        fire = Fire(whole, lights)
        chain = Chain(net, left, right, number, first=first, last=last)
        joints = [named[left] for named in maps] + [maps[-1][right]]
        self.assertEqual([chain.joint_time(index) for index in range(number + 1)], [fire(joint) for joint in joints])
        for link in range(number):
            for node in net.nodes:
                self.assertEqual(chain.time_in(link, node), fire(maps[link][node]))
            for _ in range(4 if len(net) else 0):
                fuse, at = random.randrange(len(net)), Ratio(random.randint(0, 10), 10)
                at = at * net.fuses[fuse][2]
                self.assertEqual(chain.time_in(link, (fuse, at)), fire((fuse + link * len(net), at)))
        self.assertEqual(chain.end(), fire.end())
        times = [time for time in fire.times().values() if time is not None]
        times += [random.randint(-4, 40) * Ratio(1, 3) for _ in range(8)] + [times[0] + Ratio(1, 2), 10 ** 6, -10 ** 6]
        changes = [time for time, _, _ in steps(fire)]
        times += changes + [(one + other).over(2) for one, other in zip(changes, changes[1:])]
        for time in times:
            self.assertEqual(chain.burnt(time), burnt(fire, time))
        return chain

    def test_drawn(self):
        random = Random(1)
        kinds = {}
        for case in range(500):
            nodes, fuses = random_net(random, 4, 5, 4)
            if len(nodes) < 2:
                continue
            net = Net(nodes, fuses)
            left, right = random.sample(nodes, 2)
            number = random.randint(1, min(6, 40 // max(1, len(fuses)), (30 - len(nodes)) // (len(nodes) - 1) + 1))
            first, last = random.choice([(0, None), (None, 1), (0, 0), (0, 3), (5, 0), (0, 30), (30, 0), (Ratio(1, 3), Ratio(5, 2))])
            with self.subTest(case=case, nodes=nodes, fuses=fuses, left=left, right=right, number=number, first=first, last=last):
                chain = self.check(net, left, right, number, first, last, random)
                kinds[chain.end() is None, net.distance(left, right) is None] = True
        self.assertEqual(len(kinds), 4)

    def test_every_difference_of_times(self):
        random = Random(2)
        net = Net(["a", "b", "c", "d"], [("a", "b", 1), ("b", "c", 1), ("b", "d", 3), ("c", "c", Ratio(5, 2))])
        for number in (1, 2, 3, 5):
            for last in range(-3, 28):
                self.check(net, "a", "c", number, 7, Ratio(last, 2), random)

    def test_document(self):
        chain = Chain(three(), "a", "c", BIG, first=0)
        self.assertTrue(is_ratio(chain.joint_time(10), 60) and is_ratio(chain.time_in(3, "b"), 22) and is_ratio(chain.burnt(9), 9))
        self.assertTrue(is_ratio(chain.end(), 6 * BIG) and is_ratio(chain.joint_time(index=0), 0))
        self.assertEqual(chain.joint_time(BIG), 6 * BIG)
        self.assertEqual((chain.burnt(time=6 * BIG), chain.burnt(6 * BIG - 1), chain.burnt(7 * BIG)), (6 * BIG, 6 * BIG - 1, 6 * BIG))

    def test_very_long(self):
        net = Net(["a", "b", "c"], [("a", "b", 1), ("b", "c", Ratio(5, 2))])
        chain = Chain(net, "a", "b", BIG, first=0, last=5)
        self.assertEqual(chain.joint_time(BIG - 1), 6)
        middle = BIG // 2 + 2
        self.assertEqual((chain.joint_time(middle), chain.joint_time(middle + 1), chain.joint_time(middle - 1)), (middle, middle, middle - 1))
        self.assertEqual(chain.joint_time(middle + 2), middle - 1)
        self.assertEqual(chain.end(), middle + Ratio(5, 2))
        self.assertEqual(chain.burnt(BIG), Ratio(7, 2) * BIG)
        left_ways, right_ways = 7 * Ratio(5, 2) + 2 + 1, 3 * Ratio(5, 2) + 2 + 1
        self.assertEqual(chain.burnt(10), 10 + 5 + left_ways + right_ways)
        self.assertEqual(chain.time_in(link=BIG - 1, point=(1, 1)), 6)

    def test_long_side_ways(self):
        net = Net(["a", "b", "c"], [("a", "b", 1), ("a", "c", 3 * BIG)])
        chain = Chain(net, "a", "b", BIG, first=0)
        self.assertEqual(chain.burnt(2 * BIG), BIG + 2 * BIG * BIG - BIG * (BIG - 1) // 2)
        self.assertEqual(chain.burnt(BIG // 2), BIG // 2 + (BIG // 2) * (BIG // 2 + 1) // 2)
        self.assertEqual((chain.end(), chain.burnt(5 * BIG)), (4 * BIG - 1, BIG + 3 * BIG * BIG))

    def test_joints_that_are_not_connected(self):
        net = Net(["a", "b", "c"], [("a", "b", 2)])
        chain = Chain(net, "a", "c", BIG, first=1, last=4)
        self.assertEqual([chain.joint_time(index) for index in (0, 1, BIG - 1, BIG)], [1, None, None, 4])
        self.assertEqual([chain.time_in(link, "b") for link in (0, 1, BIG - 1)], [3, None, None])
        self.assertEqual((chain.time_in(BIG - 1, "c"), chain.time_in(0, (0, 1)), chain.end(), chain.burnt(2), chain.burnt(99)), (4, 2, None, 1, 2))
        one = Chain(net, "a", "c", 1, first=1, last=9)
        self.assertEqual((one.end(), one.joint_time(1), one.burnt(99)), (9, 9, 2))
        two = Chain(net, "c", "a", 2, last=0)
        self.assertEqual((two.end(), two.joint_time(0), two.joint_time(1), two.burnt(1), two.time_in(1, "b")), (None, None, None, 1, 2))

    def test_scaled(self):
        random = Random(3)
        for _ in range(30):
            factor = Ratio(random.randint(1, 99), random.randint(1, 99))
            one = Chain(three(), "a", "b", 10 ** 9, first=2, last=5)
            other = Chain(three() * factor, "a", "b", 10 ** 9, first=factor * 2, last=factor * 5)
            index = random.randint(0, 10 ** 9)
            time = random.randint(0, 10 ** 11)
            self.assertEqual(one.joint_time(index) * factor, other.joint_time(index))
            self.assertEqual((one.end() * factor, one.burnt(time) * factor), (other.end(), other.burnt(factor * time)))


class Wrong(unittest.TestCase):
    def test_joints(self):
        for value in odd_values() + ["d", "aa", ("a",), ["a"]]:
            for right in (value, "b", "nowhere", None):
                with self.assertRaises(InvalidJoin) as caught:
                    Chain(three(), value, right, 0, first="x")
                self.assertIs(caught.exception.value, value)
            with self.assertRaises(InvalidJoin) as caught:
                Chain(three(), "a", value, 0, first="x")
            self.assertIs(caught.exception.value, value)
        self.assertEqual(raised(Chain, three(), "a", "a", 1, first=0), ("InvalidJoin", {"value": "a"}))

    def test_numbers(self):
        for value in odd_numbers() + [0, -1, BIG + 1, Ratio(1), Ratio(1, 2)]:
            with self.assertRaises(InvalidNumber) as caught:
                Chain(three(), "a", "b", value, first="x", last="y")
            self.assertIs(caught.exception.value, value)
        for value in odd_numbers():
            if value is not None:
                with self.assertRaises(InvalidNumber) as caught:
                    Chain(three(), "a", "b", 1, first=value, last=[])
                self.assertIs(caught.exception.value, value)
                for first in (None, 0):
                    with self.assertRaises(InvalidNumber) as caught:
                        Chain(three(), "a", "b", 1, first=first, last=value)
                    self.assertIs(caught.exception.value, value)
        self.assertEqual(raised(Chain, three(), "a", "b", 1), ("InvalidLights", {"index": None}))
        self.assertEqual(raised(Chain, net=three(), left="a", right="b", number=BIG, first=None, last=None), ("InvalidLights", {"index": None}))

    def test_times_by_keyword_only(self):
        with self.assertRaises(TypeError):
            Chain(three(), "a", "b", 1, 0)

    def test_calls(self):
        chain = Chain(three(), "a", "b", 5, first=0)
        for value in odd_numbers() + [-1, 6, Ratio(1), 10 ** 40]:
            with self.assertRaises(InvalidNumber) as caught:
                chain.joint_time(value)
            self.assertIs(caught.exception.value, value)
        for value in odd_numbers() + [-1, 5, Ratio(1)]:
            with self.assertRaises(InvalidNumber) as caught:
                chain.time_in(value, "x")
            self.assertIs(caught.exception.value, value)
        for value in odd_values():
            for lit in (chain, Chain(Net(["a", "b"], []), "a", "b", 5, first=0)):
                with self.assertRaises(InvalidPoint) as caught:
                    lit.time_in(3, value)
                self.assertIs(caught.exception.value, value)
        for value in odd_numbers():
            with self.assertRaises(InvalidNumber) as caught:
                chain.burnt(value)
            self.assertIs(caught.exception.value, value)
        self.assertEqual((chain.joint_time(5), chain.time_in(4, "b")), (20, 20))

    def test_never_changes(self):
        net = three()
        chain = Chain(net, "a", "b", 5, first=0)
        before = deepcopy(vars(chain))
        for call in (lambda: chain.joint_time(9), lambda: chain.time_in(0, "x"), lambda: chain.burnt(None), chain.end):
            raised(call)
        self.assertEqual(vars(chain), before)
        self.assertEqual(net, three())


if __name__ == "__main__":
    unittest.main()
