"""Guards and flows, against all sets of fuses of small nets, and trails that are walked one by one."""

import unittest
from copy import deepcopy
from fractions import Fraction
from itertools import combinations
from random import Random

from cutting import fraction, plain, random_lights, random_net
from fusenets.errors import InvalidPoint, InvalidPrices
from fusenets.fires import Fire
from fusenets.guarding import flow, flow_amount, guard, guard_price
from fusenets.nets import Net
from fusenets.ratios import Ratio
from odd import Strange, is_ratio, odd_numbers, odd_values, only_ratios, raised


def burns(fire, node, left_out):
    """Whether a node burns if some fuses, and the lights inside them, are left out; step by step."""
    fuses = fire.net.fuses
    burnt = set()
    for point, _ in fire.lights:
        if isinstance(point, str):
            burnt.add(point)
        elif point[0] not in left_out:
            burnt.update(fuses[point[0]][:2])
    for _ in fuses:
        for index, (one, other, _) in enumerate(fuses):
            if index not in left_out and (one in burnt or other in burnt):
                burnt.update((one, other))
    return node in burnt


def is_guard(fire, node, value):
    """Whether a list of indexes of fuses is a guard."""
    return value == sorted(set(value)) and not burns(fire, node, value)


def least_price(fire, node, prices):
    """The least price of all sets of fuses that are guards, or None."""
    found = [sum((fraction(prices[fuse]) for fuse in fuses), Fraction(0)) for number in range(len(fire.net) + 1)
             for fuses in combinations(range(len(fire.net)), number) if not burns(fire, node, fuses)]
    return min(found) if found else None


def walks(fire, light, fuses):
    """All nodes where a walk from a light through some fuses in order can end."""
    ways = fire.net.fuses
    point = fire.lights[light][0]
    if isinstance(point, str):
        ends = {point}
    else:
        if not fuses or fuses[0] != point[0]:
            return set()
        ends, fuses = set(ways[fuses[0]][:2]), fuses[1:]
    for fuse in fuses:
        one, other, _ = ways[fuse]
        ends = {there for here, there in ((one, other), (other, one)) if here in ends}
    return ends


def is_trail(fire, node, trail):
    """Whether a tuple (light, fuses) of indexes is a trail with fuses."""
    light, fuses = trail
    return 0 < len(fuses) == len(set(fuses)) and node in walks(fire, light, fuses)


def is_flow(fire, node, value, prices):
    """Whether tuples (amount, trail) are a flow of trails with fuses."""
    if not all(amount > 0 and is_trail(fire, node, trail) for amount, trail in value):
        return False
    return all(sum(fraction(amount) for amount, (_, fuses) in value if fuse in fuses) <= fraction(price) for fuse, price in enumerate(prices))


def drawn(random):
    """A fire in a small net, and prices."""
    nodes, fuses = random_net(random, most_nodes=5, most_fuses=7)
    prices = [random.choice([0, 1, 1, 2, 3, Ratio(1, 2), Ratio(7, 3)]) for _ in fuses]
    return Fire(Net(nodes, fuses), random_lights(random, nodes, fuses, most=3)), prices


def triangle():
    """The fire of the document."""
    return Fire(Net(["a", "b", "c"], [("a", "b", 4), ("b", "c", 2), ("a", "c", 9)]), [("a", 0)])


class Known(unittest.TestCase):
    def test_document(self):
        fire, prices = triangle(), [5, 1, 2]
        self.assertEqual((guard(fire, "c", prices), str(guard_price(fire, "c", [0, 2])), str(flow_amount(fire, "c", flow(fire, "c", prices), prices))),
                         ([1, 2], "2", "3"))

    def test_kinds(self):
        fire, prices = triangle(), [5, Ratio(1, 2), 2]
        self.assertTrue(all(fuse.__class__ is int for fuse in guard(fire, "c", prices)))
        for amount, (light, fuses) in flow(fire, "c", prices):
            self.assertIsInstance(amount, Ratio)
            self.assertTrue(light.__class__ is int and fuses.__class__ is list and all(fuse.__class__ is int for fuse in fuses))
        self.assertTrue(only_ratios(flow(fire, "c", prices)))
        self.assertTrue(is_ratio(guard_price(fire, "c", [1, 2], prices), 5, 2))
        self.assertTrue(is_ratio(flow_amount(fire, "c", [(1, (0, [2]))]), 1))
        self.assertTrue(is_ratio(flow_amount(fire, "c", []), 0))
        self.assertTrue(is_ratio(guard_price(Fire(Net(["a", "b"], []), [("a", 0)]), "b", []), 0))

    def test_names_of_arguments(self):
        fire = triangle()
        self.assertEqual(guard(fire=fire, node="c", prices=[1, 2, 3]), [0, 2])
        self.assertEqual(len(flow(fire=fire, node="c", prices=[1, 1, 0])), 1)
        self.assertEqual(guard_price(fire=fire, node="c", value=[0, 2], prices=[1, 2, 3]), 4)
        self.assertEqual(flow_amount(fire=fire, node="c", value=[(1, (0, [2]))], prices=None), 1)

    def test_prices_left_out_and_none(self):
        fire = triangle()
        for more in [(), (None,), ([1, 1, 1],)]:
            self.assertEqual(guard_price(fire, "c", guard(fire, "c", *more), *more), 2)
            self.assertEqual(flow_amount(fire, "c", flow(fire, "c", *more), *more), 2)
            self.assertEqual(guard_price(fire, "c", [0, 1, 2], *more), 3)

    def test_prices_of_0(self):
        fire = triangle()
        self.assertEqual(guard_price(fire, "c", guard(fire, "c", [0, 0, 0]), [0, 0, 0]), 0)
        self.assertEqual(flow(fire, "c", [0, 5, 0]), [])
        self.assertEqual(guard_price(fire, "c", [0, 2], [0, 5, 0]), 0)
        self.assertIsNone(guard_price(fire, "c", [], [0, 5, 0]))
        inside = Fire(Net(["a", "b"], [("a", "b", 4)]), [((0, 1), 0)])
        self.assertEqual((guard(inside, "b", [0]), flow(inside, "b", [0])), ([0], []))

    def test_a_light_at_the_node(self):
        fire = Fire(Net(["a", "b"], [("a", "b", 4), ("a", "b", 1), ("a", "a", 1)]), [("b", 0), ("a", 5), ((0, 1), 3)])
        for node in "ab":
            self.assertEqual((guard(fire, node), flow(fire, node), guard_price(fire, node, [0, 1, 2])), (None, None, None))
        self.assertEqual(flow_amount(fire, "b", [(1, (0, [0, 1]))]), 1)
        self.assertEqual(flow_amount(fire, "b", []), 0)
        self.assertIsNone(flow_amount(fire, "b", [(1, (0, []))]))
        self.assertIsNone(flow_amount(fire, "b", [(1, (0, [0, 1])), (1, (0, []))]))
        self.assertEqual(flow_amount(fire, "a", [(Ratio(1, 2), (1, [2])), (Ratio(1, 2), (1, [0, 1]))]), 1)

    def test_lights_inside(self):
        net = Net(["a", "b", "c"], [("a", "b", 4), ("b", "c", 2), ("c", "a", 3)])
        fire = Fire(net, [((0, 1), 0)])
        self.assertEqual((guard(fire, "c", [3, 1, 1]), guard(fire, "c", [1, 3, 3])), ([1, 2], [0]))
        self.assertEqual(flow_amount(fire, "c", flow(fire, "c", [1, 3, 3]), [1, 3, 3]), 1)
        self.assertEqual(guard_price(fire, "c", [0]), 1)
        for fuses, wanted in [([0, 1], 1), ([0, 2], 1), ([1], None), ([2, 0, 1], None), ([0], None), ([0, 1, 2], None), ([1, 0], None)]:
            self.assertEqual(flow_amount(fire, "c", [(1, (0, fuses))]), wanted)
        self.assertEqual(flow_amount(fire, "b", [(1, (0, [0]))]), 1)
        self.assertEqual(flow_amount(fire, "a", [(1, (0, [0]))]), 1)

    def test_trail_through_a_fuse_with_another_light(self):
        net = Net(["a", "b", "c"], [("a", "b", 4), ("b", "c", 2)])
        fire = Fire(net, [((0, 1), 0), ("a", 0)])
        self.assertEqual(flow_amount(fire, "c", [(Ratio(1, 2), (0, [0, 1])), (Ratio(1, 2), (1, [0, 1]))]), 1)
        self.assertIsNone(flow_amount(fire, "c", [(Ratio(2, 3), (0, [0, 1])), (Ratio(1, 2), (1, [0, 1]))]))

    def test_trail_passes_a_node_twice_but_no_fuse(self):
        net = Net(["a", "b", "c"], [("a", "b", 1), ("b", "b", 1), ("b", "c", 1), ("b", "a", 1), ("a", "b", 1)])
        fire = Fire(net, [("a", 0)])
        for fuses, wanted in [([0, 1, 2], 1), ([0, 3, 4, 2], 1), ([0, 3, 4, 1, 2], 1), ([0, 1, 1, 2], None), ([0, 0, 0, 2], None), ([0, 3, 0, 2], None),
                              ([0, 3, 2], None), ([2], None), ([1, 2], None)]:
            self.assertEqual(flow_amount(fire, "c", [(1, (0, fuses))]), wanted)

    def test_node_without_fuses(self):
        fire = Fire(Net(["a", "b", "c"], [("a", "b", 1)]), [("a", 0)])
        self.assertEqual((guard(fire, "c"), flow(fire, "c"), guard_price(fire, "c", []), guard_price(fire, "c", [0])), ([], [], 0, 1))


class Wrong(unittest.TestCase):
    def calls(self):
        """The functions, with what stands between the node and the prices."""
        return [(guard, ()), (flow, ()), (guard_price, (None,)), (flow_amount, (None,))]

    def test_nodes(self):
        for call, more in self.calls():
            for value in odd_values() + ["d", (0, 0), (0, 4)]:
                told = raised(call, triangle(), value, *more, Strange())
                self.assertEqual(told[0], "InvalidPoint")
                self.assertIs(told[1]["value"], value)

    def test_prices(self):
        wrong = [value for value in odd_values() if value is not None] + [[1, 2], [1, 2, 3, 4], (1, 2, 3), [1, 2, -1], [1, 2, Ratio(-1, 9)], {0: 1, 1: 1, 2: 1}]
        wrong += [[1, 1, value] for value in odd_numbers()]
        for call, more in self.calls():
            for value in wrong:
                for node in "ca":
                    told = raised(call, triangle(), node, *more, value)
                    self.assertEqual(told[0], "InvalidPrices")
                    self.assertIs(told[1]["value"], value)

    def test_guards(self):
        fire = triangle()
        for value in odd_values() + [(0, 2), [2, 0], [0, 0, 2], [0, 2, 3], [-1, 2], [0], [1], [2], [0, 1], [False, 2], [0, Ratio(2)], [0, None], {0: 0, 2: 0}]:
            self.assertIsNone(guard_price(fire, "c", value))
        for value in odd_values():
            self.assertIsNone(guard_price(fire, "c", [0, value]))
        self.assertEqual([guard_price(fire, "c", value) for value in ([0, 2], [1, 2], [0, 1, 2])], [2, 2, 3])

    def test_flows(self):
        fire, prices = triangle(), [5, 1, 2]
        good = (1, (0, [0, 1]))
        self.assertEqual(flow_amount(fire, "c", [good], prices), 1)
        for value in odd_values() + [(good,), {0: good}, [good, None], [[1, (0, [0, 1])]]]:
            if value.__class__ is not list or value:
                self.assertIsNone(flow_amount(fire, "c", value, prices))
        for value in odd_values():
            for stream in [value, (value, (0, [2])), (1, value), (1, (value, [2])), (1, (0, value)), (1, (0, [value])), (1, (0, [0, value]))]:
                if not isinstance(value, Ratio) and value.__class__ is not list:
                    self.assertIsNone(flow_amount(fire, "c", [stream], prices))
        for stream in [(0, (0, [2])), (-1, (0, [2])), (Ratio(0), (0, [2])), (True, (0, [2])), (1, (1, [2])), (1, (-1, [2])), (1, (False, [2])),
                       (1, (Ratio(0), [2])), (1, (0, [Ratio(2)])), (1, (0, [3])), (1, (0, [-1])), (1, (0, [0, True])), (1, (0, (2,))), (1, [0, [2]]),
                       (1, (0, [2], 0)), (1, (0, [2]), 0), (1, (0, [0])), (1, (0, [1])), (1, (0, [2, 1])), (1, (0, [])), (Ratio(5, 2), (0, [2]))]:
            self.assertIsNone(flow_amount(fire, "c", [stream], prices), stream)
        self.assertEqual(flow_amount(fire, "c", [(2, (0, [2]))], prices), 2)
        self.assertEqual(flow_amount(fire, "c", [(1, (0, [2])), (1, (0, [2])), good], prices), 3)
        self.assertIsNone(flow_amount(fire, "c", [(1, (0, [2])), (Ratio(11, 10), (0, [2])), good], prices))
        self.assertIsNone(flow_amount(fire, "c", [good, (Ratio(1, 10 ** 9), (0, [0, 1]))], prices))

    def test_later_changes(self):
        fire, prices = triangle(), [5, 1, 2]
        value, stream = [1, 2], [(2, (0, [2]))]
        copies = deepcopy((prices, value, stream))
        for _ in range(2):
            self.assertEqual((guard(fire, "c", prices), guard_price(fire, "c", value, prices), flow_amount(fire, "c", stream, prices)), ([1, 2], 3, 2))
            guard(fire, "c", prices).clear()
            for _, (_, fuses) in flow(fire, "c", prices):
                fuses.clear()
        self.assertEqual((prices, value, stream), copies)


class Drawn(unittest.TestCase):
    def test_prices_of_guards(self):
        random = Random(20)
        for _ in range(150):
            fire, prices = drawn(random)
            for node in fire.net.nodes:
                for told in [prices, None]:
                    amounts = prices if told else [1] * len(prices)
                    wanted = least_price(fire, node, amounts)
                    found, streams = guard(fire, node, told), flow(fire, node, told)
                    if wanted is None:
                        self.assertEqual((found, streams), (None, None))
                        continue
                    self.assertTrue(is_guard(fire, node, found))
                    self.assertEqual(plain(guard_price(fire, node, found, told)), wanted)
                    self.assertTrue(is_flow(fire, node, streams, amounts))
                    self.assertEqual(plain(flow_amount(fire, node, streams, told)), wanted)

    def test_all_sets_of_fuses(self):
        random = Random(21)
        for _ in range(40):
            fire, prices = drawn(random)
            node = random.choice(fire.net.nodes)
            for number in range(len(prices) + 1):
                for fuses in map(list, combinations(range(len(prices)), number)):
                    wanted = sum((fraction(prices[fuse]) for fuse in fuses), Fraction(0)) if is_guard(fire, node, fuses) else None
                    self.assertEqual(plain(guard_price(fire, node, fuses, prices)), wanted)

    def test_drawn_flows(self):
        random = Random(22)
        good = 0
        for _ in range(1500):
            fire, prices = drawn(random)
            node, value = random.choice(fire.net.nodes), []
            for _ in range(random.randint(1, 2)):
                fuses = [random.randrange(max(1, len(prices))) for _ in range(random.randint(0, 3))]
                value.append((random.choice([1, Ratio(1, 2), Ratio(1, 4)]), (random.randrange(len(fire.lights)), fuses)))
            known = all(fuse < len(prices) for _, (_, fuses) in value for fuse in fuses)
            wanted = sum(fraction(amount) for amount, _ in value) if known and is_flow(fire, node, value, prices) else None
            self.assertEqual(plain(flow_amount(fire, node, value, prices)), wanted)
            good += wanted is not None
        self.assertGreater(good, 60)

    def test_no_flow_is_more_than_a_guard(self):
        random = Random(23)
        for _ in range(300):
            fire, prices = drawn(random)
            node = random.choice(fire.net.nodes)
            streams, found = flow(fire, node, prices), guard(fire, node, prices)
            if streams:
                amount, trail = streams[0]
                self.assertIsNone(flow_amount(fire, node, [(amount + Ratio(1, 9), trail)] + streams[1:], prices))
            if found:
                less = guard_price(fire, node, found[1:], prices)
                self.assertTrue(less is None or less == guard_price(fire, node, found, prices))

    def test_large_prices_and_nets(self):
        random = Random(24)
        nodes = [one + other for one in "abcde" for other in "fghijk"]
        for _ in range(10):
            fuses = [(random.choice(nodes), random.choice(nodes), 1) for _ in range(40)]
            prices = [Ratio(random.randint(0, 10 ** 59), random.randint(1, 10 ** 5)) for _ in fuses]
            fire = Fire(Net(nodes, fuses), [(nodes[0], 0), ((7, Ratio(1, 2)), 0), (nodes[9], 3)])
            found, streams = guard(fire, nodes[-1], prices), flow(fire, nodes[-1], prices)
            self.assertEqual(guard_price(fire, nodes[-1], found, prices), flow_amount(fire, nodes[-1], streams, prices))


if __name__ == "__main__":
    unittest.main()
