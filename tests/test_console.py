"""The console: each command with its answer, word for word, and all wrong commands."""

import unittest
from random import Random

from cutting import random_lights, random_net
from fusenets.burning import burnt
from fusenets.centre import best_points
from fusenets.console import Console
from fusenets.errors import InvalidCommand
from fusenets.fires import Fire
from fusenets.nets import Net
from fusenets.ratios import Ratio
from fusenets.texts import format_fire, format_net, format_point
from fusenets.trees import fewest
from odd import odd_values, raised


def told(*commands):
    """A console and its answers to commands."""
    console = Console()
    return console, [console.execute(command) for command in commands]


def filled():
    """A console with a lit tree n, a ring r without lights, a dark part in d, and a single node o."""
    return told("net ann n a,b,c a:b:4,b:c:2", "lights ann n a:0,1@1:1/2", "net bob r p,q p:q:2,q:p:4", "net ann d a,b,c a:b:2", "lights ann d a:1",
                "net ann o x -")[0]


def state(console):
    """All that a console tells of its nets."""
    names = console.execute("names")
    return [names] + [console.execute("show " + name) for name in names.split(" ") if name != "-"]


class Answers(unittest.TestCase):
    def test_document(self):
        self.assertEqual(told("net ann n a,b a:b:3", "lights ann n a:0,b:1", "end n", "last n")[1], ["ok", "ok", "2", "0@2"])

    def check(self, console, *rows):
        for command, answer in rows:
            with self.subTest(command=command):
                given = console.execute(command=command)
                self.assertEqual(given, answer)
                self.assertIs(type(given), str)

    def test_questions(self):
        self.check(filled(), ("names", "d n o r"), ("show n", "nodes a b c\nfuse a b 4\nfuse b c 2\nlight a 0\nlight 1@1 1/2"),
                   ("show r", "nodes p q\nfuse p q 2\nfuse q p 4"), ("show o", "nodes x"), ("end n", "11/4"), ("last n", "0@11/4"), ("time n b", "3/2"),
                   ("time n 0@1/2", "1/2"), ("time n 0@4", "3/2"), ("burnt n 1", "2"), ("burnt n -1", "0"), ("burnt n 99", "6"), ("burnt n 7/8", "13/8"),
                   ("fewest n 1", "3"), ("fewest n 1/1000", "3000"), ("best n", "3 0:3:3"), ("best r", "3 0:0:2 1:0:4"), ("best o", "0"), ("fewest o 5", "1"))

    def test_what_never_burns(self):
        self.check(filled(), ("end d", "never"), ("last d", "-"), ("time d c", "never"), ("time d 0@1", "2"), ("burnt d 2", "1"), ("best d", "never"))

    def test_without_lights(self):
        self.check(filled(), ("end r", "never"), ("last r", "-"), ("time r p", "never"), ("time r 1@1", "never"), ("burnt r 5", "0"), ("burnt r -5", "0"),
                   ("end o", "never"), ("time o x", "never"))
        console = filled()
        self.assertEqual(raised(console.execute, "time r x"), ("InvalidPoint", {"value": "x"}))
        self.assertEqual(raised(console.execute, "time r 2@1"), ("InvalidPoint", {"value": (2, Ratio(1))}))
        self.assertEqual(raised(console.execute, "time r 0@3"), ("InvalidPoint", {"value": (0, Ratio(3))}))
        self.assertEqual(raised(console.execute, "fewest r 0"), ("NotATree", {}))

    def test_changes(self):
        console = filled()
        self.check(console, ("scale bob n 1/2", "ok"), ("show n", "nodes a b c\nfuse a b 2\nfuse b c 1\nlight a 0\nlight 1@1/2 1/4"), ("lights bob r q:-1", "ok"),
                   ("join bob n r c:p", "ok"), ("names", "d n o"),
                   ("show n", "nodes a b c q\nfuse a b 2\nfuse b c 1\nfuse c q 2\nfuse q c 4\nlight a 0\nlight 1@1/2 1/4\nlight q -1"),
                   ("undo bob", "ok"), ("names", "d n o r"), ("redo bob", "ok"), ("names", "d n o"), ("undo bob", "ok"), ("undo bob", "ok"),
                   ("show r", "nodes p q\nfuse p q 2\nfuse q p 4"), ("drop cy d", "ok"), ("names", "n o r"), ("lights cy n -", "ok"), ("end n", "never"),
                   ("join cy n o -", "ok"), ("show n", "nodes a b c x\nfuse a b 2\nfuse b c 1"), ("best n", "never"))

    def test_empty(self):
        self.check(Console(), ("names", "-"))

    def test_drawn(self):
        random = Random(1)
        for _ in range(100):
            nodes, fuses = random_net(random)
            lights = random_lights(random, nodes, fuses)
            net = Net(nodes, fuses)
            fire = Fire(net, lights)
            listed = ",".join(f"{one}:{other}:{length}" for one, other, length in fuses) or "-"
            lit = ",".join(f"{format_point(point)}:{time}" for point, time in fire.lights)
            console = told(f"net u n {','.join(nodes)} {listed}", f"lights u n {lit}")[0]
            time = Ratio(random.randint(-9, 30), random.randint(1, 4))
            rows = [("show n", format_fire(fire)), ("end n", "never" if fire.end() is None else str(fire.end())),
                    ("last n", " ".join(map(format_point, fire.last())) or "-"), (f"burnt n {time}", str(burnt(fire, time)))]
            rows += [(f"time n {node}", "never" if fire(node) is None else str(fire(node))) for node in nodes]
            best = best_points(net)
            if best is None:
                rows.append(("best n", "never"))
            else:
                rows.append(("best n", " ".join([str(best[0])] + [f"{fuse}:{start}:{end}" for fuse, start, end in best[1]])))
            if net.is_tree() and time > 0:
                rows.append((f"fewest n {time}", str(fewest(net, time))))
            console.execute("lights u n -")
            self.assertEqual(console.execute("show n"), format_net(net))
            console.execute("undo u")
            self.check(console, *rows)


class Wrong(unittest.TestCase):
    def check(self, command, error, console=None):
        console = console or filled()
        before = state(console)
        with self.subTest(command=command):
            self.assertEqual(raised(console.execute, command), error)
        self.assertEqual(state(console), before)

    def test_no_commands(self):
        commands = ["", " ", "nothing", "names ", " names", "names n", "NAMES", "show", "show ", "show n ", "show  n", "show N", "show n o", "end", "end n n", "time n",
                    "time n ", "time n 0@0", "time n 0@-1", "time n 01@1", "time n A", "time n a b", "time n 0", "burnt n", "burnt n x", "burnt n 2/4", "burnt n 1 2",
                    "burnt n " + "7" * 1001, "last", "last n 1", "fewest n", "fewest n x", "fewest n 01", "best", "best n n", "undo", "undo ann bob", "undo Ann", "undo ",
                    "redo", "redo toolongname", "drop ann", "drop ann n n", "drop n", "scale ann n", "scale ann n x", "scale ann n 1/1", "scale ann n 2 3", "scale n 2",
                    "lights ann n", "lights ann n ", "lights ann n a", "lights ann n a:0,", "lights ann n ,a:0", "lights ann n a:0:0", "lights ann n a:x",
                    "lights ann n 0@0:1", "lights ann n -,a:0", "lights ann n --", "lights ann n a:0 b:0", "lights ann n A:0", "lights ann n a:", "lights ann n :0",
                    "net ann k", "net ann k a", "net ann k a ", "net ann k a a:a", "net ann k a a:a:1:1", "net ann k a a:a:x", "net ann k a a:a:2/4", "net ann k A -",
                    "net ann k a, -", "net ann k ,a -", "net ann k a,,b -", "net ann k a:b -", "net ann k a -,a:a:1", "net ann k a a:a:1,-", "net ann k a a:A:1",
                    "net ann k a a:a:", "net ann K a -", "net - k a -", "net ann k abcdefghi -", "net ann k a - -", "join ann n r", "join ann n r a:p:q", "join ann n r a",
                    "join ann n r A:p", "join ann n r a:p,", "join ann n r ap", "join ann n r 0@1:p", "join n r -", "join ann n r - -", "names\n", "show n\n",
                    "undo\tann", "end  n", "log", "preview n", "act ann", "net\nann k a -"]
        for command in commands:
            self.check(command, ("InvalidCommand", {"value": command}))

    def test_no_texts(self):
        for value in odd_values():
            if not isinstance(value, str):
                console = filled()
                with self.assertRaises(InvalidCommand) as caught:
                    console.execute(value)
                self.assertIs(caught.exception.value, value)

    def test_errors_of_the_workshop(self):
        for command, error in [
                ("net ann n k -", ("NameTaken", {"name": "n"})), ("net ann n k,k -", ("InvalidNet", {"part": "nodes"})), ("net ann k - -", ("InvalidNet", {"part": "nodes"})),
                ("net ann n a,b a:c:1", ("InvalidNet", {"part": "fuses"})), ("net ann k a a:a:0", ("InvalidNet", {"part": "fuses"})),
                ("net ann k a a:a:-1/2", ("InvalidNet", {"part": "fuses"})), ("net ann k - a:a:1", ("InvalidNet", {"part": "nodes"})),
                ("drop ann q", ("UnknownName", {"name": "q"})), ("lights ann q a:0", ("UnknownName", {"name": "q"})), ("scale ann q 0", ("UnknownName", {"name": "q"})),
                ("lights ann n a:0,d:1", ("InvalidLights", {"index": 1})), ("lights ann n 0@5:1", ("InvalidLights", {"index": 0})),
                ("lights ann n " + ",".join(["a:0"] * 21), ("InvalidLights", {"index": None})), ("scale ann n 0", ("InvalidNumber", {"value": Ratio(0)})),
                ("scale ann n -1/2", ("InvalidNumber", {"value": Ratio(-1, 2)})), ("join ann q r -", ("UnknownName", {"name": "q"})),
                ("join ann n q -", ("UnknownName", {"name": "q"})), ("join ann n n -", ("InvalidJoin", {"value": "n"})),
                ("join ann n r a:x", ("InvalidJoin", {"value": [("a", "x")]})), ("join ann n d -", ("InvalidJoin", {"value": "a"})),
                ("undo cy", ("NothingToUndo", {"user": "cy"})), ("redo ann", ("NothingToUndo", {"user": "ann"}))]:
            self.check(command, error)
        console = filled()
        console.execute("scale bob n 2")
        console.execute("drop ann n")
        console.execute("undo bob")
        self.check("redo bob", ("UnknownName", {"name": "n"}), console)
        console.execute("undo ann")
        console.execute("redo bob")
        console.execute("lights cy o x:0")
        self.check("undo ann", ("Blocked", {"index": 7}), console)

    def test_errors_of_questions(self):
        for word in ("show q", "end q", "time q a", "time q 9@9", "burnt q 1", "last q", "fewest q 0", "best q"):
            self.check(word, ("UnknownName", {"name": "q"}))
        self.check("time n d", ("InvalidPoint", {"value": "d"}))
        self.check("time n 0@9/2", ("InvalidPoint", {"value": (0, Ratio(9, 2))}))
        self.check("fewest r 1", ("NotATree", {}))
        self.check("fewest d 0", ("NotATree", {}))
        self.check("fewest n 0", ("InvalidNumber", {"value": Ratio(0)}))
        self.check("fewest n -1", ("InvalidNumber", {"value": Ratio(-1)}))

    def test_limits(self):
        console = told(*[f"net ann n{letter} a -" for letter in "abcdefghijklmnopqrst"])[0]
        self.check("net ann x a -", ("LimitExceeded", {"limit": 20}), console)
        self.check("net ann x a,a -", ("InvalidNet", {"part": "nodes"}), console)
        nodes = ["n" + letter for letter in "abcdefghijklmnopqrstuvwxyz"] + list("abcde")
        self.check(f"net ann x {','.join(nodes)} -", ("InvalidNet", {"part": "nodes"}))
        self.check("net ann x a " + ",".join(["a:a:1"] * 41), ("InvalidNet", {"part": "fuses"}))
        self.assertEqual(filled().execute(f"net ann x {','.join(nodes[:30])} -"), "ok")


if __name__ == "__main__":
    unittest.main()
