"""Runs that are stopped, saved and resumed, beside the log of the machine."""

import unittest
from random import Random

from fusenets.errors import InvalidNumber, InvalidText
from fusenets.machine import Machine
from fusenets.nets import Net
from fusenets.ratios import Ratio
from fusenets.runs import Run
from odd import is_ratio, odd_numbers, odd_values, raised
from stepping import random_machine


def made(random):
    """A drawn machine."""
    nodes, fuses, marks, lights, rules = random_machine(random)
    return Machine(Net(nodes, fuses), marks, lights, rules)


def busy(number=3):
    """A machine with several moments, calls and signals."""
    rules = [(("burn", "b"), None, [("send", "s", 0), ("light", "c", 0), ("send", "s", 1)]),
             (("signal", "s"), ("<", ("get", "x"), number), [("let", "x", ("+", ("get", "x"), 1)), ("send", "s", Ratio(1, 2))]), (("at", -5), None, [])]
    return Machine(Net(["a", "b", "c"], [("a", "b", 4), ("b", "c", 2)]), [(0, 1)], [("a", 0), ("c", 30)], rules)


def rest(run):
    """The steps to the end."""
    steps = []
    while not run.is_over():
        steps.append(run.step())
    return steps


class Known(unittest.TestCase):
    def test_document(self):
        machine = Machine(Net(["a", "b"], [("a", "b", 4)]), [], [("a", 1)], [])
        run = Run(machine)
        self.assertEqual(run.step(), [(1, "light", 0, None), (1, "burn", "a", 0)])
        self.assertEqual((run.save(), Run.resumed(machine, run.save()).step()), ("run 1 2", [(5, "burn", "b", 1), (5, "out", 0, 2)]))

    def test_begin_and_end(self):
        run = Run(busy())
        self.assertEqual((run.now(), run.log(), run.save()), (None, [], "run 0 0"))
        self.assertIs(run.is_over(), False)
        steps = rest(run)
        self.assertIs(run.is_over(), True)
        last = (run.save(), run.now(), run.log())
        self.assertEqual((run.step(), run.step()), ([], []))
        self.assertEqual((run.save(), run.now(), run.log()), last)
        self.assertEqual((run.save(), run.now()), (f"run {len(steps)} {len(run.log())}", 30))
        self.assertEqual(run.log(), busy().log())

    def test_kinds(self):
        run = Run(busy())
        step = run.step()
        self.assertIs(step.__class__, list)
        self.assertTrue(is_ratio(run.now(), -5))
        rest(run)
        self.assertIs(run.save().__class__, str)
        self.assertTrue(all(index.__class__ is int for index in run.causes(5) + run.effects(0)))

    def test_names_of_arguments(self):
        run = Run(machine=busy())
        run.step()
        other = Run.resumed(machine=busy(), text="run 1 2")
        self.assertEqual((other.log(), run.causes(index=1), run.effects(index=0)), (run.log(), [1, 0], [1]))

    def test_moments(self):
        run = Run(busy())
        found = []
        while not run.is_over():
            step = run.step()
            self.assertTrue(step)
            self.assertEqual({str(entry[0]) for entry in step}, {str(run.now())})
            found.append(str(run.now()))
        self.assertEqual(found, ["-5", "0", "1", "4", "9/2", "5", "11/2", "30"])

    def test_limit(self):
        machine = busy(10 ** 9)
        run = Run(machine)
        steps = rest(run)
        self.assertEqual((steps[-1][-1][1:3], run.log(), run.is_over(), run.step()), (("limit", 500), machine.log(), True, []))
        self.assertEqual(Run.resumed(machine, run.save()).is_over(), True)


class Saved(unittest.TestCase):
    def test_behind_every_moment(self):
        for seed in range(120):
            machine = made(Random(seed))
            run, steps = Run(machine), []
            texts, moments = [run.save()], [None]
            while not run.is_over() and len(steps) < 40:
                steps.append(run.step())
                texts.append(run.save())
                moments.append(run.now())
                self.assertEqual(run.log(), sum(steps, []))
                self.assertEqual(run.log(), machine.log()[:len(run.log())])
            if run.is_over():
                self.assertEqual(run.log(), machine.log())
            entries = [sum(map(len, steps[:number])) for number in range(len(texts))]
            self.assertEqual(texts, [f"run {number} {entries[number]}" for number in range(len(texts))])
            for number, text in enumerate(texts):
                other = Run.resumed(machine, text)
                self.assertEqual((other.save(), other.now(), other.log()), (text, moments[number], sum(steps[:number], [])))
                self.assertEqual([other.step() for _ in steps[number:]], steps[number:])
                self.assertEqual((other.save(), other.is_over()), (texts[-1], run.is_over()))

    def test_an_equal_machine(self):
        run = Run(busy())
        for _ in range(4):
            run.step()
        other = Run.resumed(busy(), run.save())
        self.assertEqual((other.log(), rest(other)), (run.log(), rest(run)))

    def test_runs_do_not_touch_each_other(self):
        machine = busy()
        one = Run(machine)
        for _ in range(3):
            one.step()
        two, three = Run.resumed(machine, one.save()), Run(machine)
        before = (one.save(), one.now(), one.log())
        ahead = rest(two)
        self.assertEqual(((one.save(), one.now(), one.log()), three.log()), (before, []))
        self.assertEqual((rest(one), rest(three)[3:], machine.log()), (ahead, ahead, one.log()))

    def test_wrong_texts(self):
        machine = busy()
        run, good = Run(machine), []
        while not run.is_over():
            good.append(run.save())
            run.step()
        good.append(run.save())
        for text in good:
            self.assertEqual(Run.resumed(machine, text).save(), text)
        word, moments, entries = good[3].split(" ")
        wrong = [value for value in odd_values()] + [
            "", "run", "run 0", "run 0 0 ", " run 0 0", "run  0 0", "run 0  0", "Run 0 0", "run 0 0\n", "\nrun 0 0", "run 0 0 0", "run -0 0", "run 0 -0", "run +0 0", "run 0 1", "run 1 0",
            "run 00 0", "run 0 00", f"run 0{moments} {entries}", f"run {moments} 0{entries}", f"run {moments} {int(entries) + 1}", f"run {moments} {int(entries) - 1}",
            f"run {int(moments) + 1} {entries}", f"run {int(moments) - 1} {entries}", f"run {moments}.0 {entries}", f"run {moments} {entries}/1", f"run {moments}, {entries}",
            f"{moments} {entries}", f"run {entries} {moments}", "run a b", "run 99 999", f"run {len(good)} {len(run.log())}", "run 0" + "0" * 5000 + " 0", "run 0 " + "0" * 5000,
            "run " + "9" * 5000 + " 0", "run 0 " + "9" * 5000, f"run {'0' * 5000}{moments} {entries}", f"run {moments} {'0' * 5000}{entries}", "run \u0661 2", "walk 0 0", b"run 0 0", ["run 0 0"]]
        for text in wrong:
            self.assertEqual(raised(Run.resumed, machine, text), ("InvalidText", {"index": None}))
        self.assertEqual(machine.log(), run.log())
        self.assertRaises(InvalidText, Run.resumed, machine, None)

    def test_texts_of_other_machines(self):
        machine, short = busy(), Machine(Net(["a"], []), [], [("a", 0)], [])
        self.assertEqual(Run.resumed(short, "run 1 2").log(), short.log())
        self.assertEqual(raised(Run.resumed, short, "run 2 4"), ("InvalidText", {"index": None}))
        self.assertEqual(len(Run.resumed(machine, "run 2 4").log()), 4)


class Causes(unittest.TestCase):
    def test_known(self):
        machine = Machine(Net(["a", "b"], [("a", "b", 4)]), [], [("a", 1)], [(("out", 0), None, [("send", "s", 1)])])
        run = Run(machine)
        rest(run)
        self.assertEqual([entry[1:] for entry in run.log()],
                         [("light", 0, None), ("burn", "a", 0), ("burn", "b", 1), ("out", 0, 2), ("call", (0, "done"), 3), ("signal", "s", 4)])
        self.assertEqual([run.causes(index) for index in (0, 3, 5)], [[0], [3, 2, 1, 0], [5, 4, 3, 2, 1, 0]])
        self.assertEqual([run.effects(index) for index in (0, 3, 5)], [[1, 2, 3, 4, 5], [4, 5], []])

    def test_only_what_is_there_so_far(self):
        run = Run(busy())
        self.assertEqual(raised(run.causes, 0), ("InvalidNumber", {"value": 0}))
        run.step()
        self.assertEqual((run.effects(0), run.causes(1), raised(run.effects, 2)), ([1], [1, 0], ("InvalidNumber", {"value": 2})))
        run.step()
        self.assertEqual(run.effects(2), [3])

    def test_drawn(self):
        for seed in range(60):
            run = Run(made(Random(seed)))
            while not run.is_over() and len(run.log()) < 60:
                run.step()
            log = run.log()
            for index in range(len(log)):
                wanted = [index]
                while log[wanted[-1]][3] is not None:
                    wanted.append(log[wanted[-1]][3])
                self.assertEqual(run.causes(index), wanted)
                self.assertEqual(wanted, sorted(wanted, reverse=True))
                self.assertEqual(run.effects(index), [other for other in range(len(log)) if other != index and index in run.causes(other)])

    def test_wrong_indexes(self):
        run = Run(busy())
        run.step()
        for value in odd_numbers() + odd_values() + [2, -1, Ratio(0), Ratio(1), True, "0", 10 ** 30]:
            for call in (run.causes, run.effects):
                told = raised(call, value)
                self.assertEqual(told[0], "InvalidNumber")
                self.assertIs(told[1]["value"], value)
        self.assertRaises(InvalidNumber, run.causes, None)

    def test_later_changes(self):
        run = Run(busy())
        step = run.step()
        step.clear()
        run.log().clear()
        run.causes(1).clear()
        run.effects(0).clear()
        self.assertEqual((len(run.log()), run.causes(1), run.effects(0)), (2, [1, 0], [1]))


if __name__ == "__main__":
    unittest.main()
