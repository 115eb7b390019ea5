"""The texts of numbers, points, nets and fires, written and read back."""

import unittest
from random import Random

from cutting import random_lights, random_net
from fusenets.errors import InvalidText
from fusenets.fires import Fire
from fusenets.nets import Net
from fusenets.ratios import Ratio
from fusenets.texts import (format_fire, format_net, format_number, format_point, parse_fire, parse_net, parse_number,
                            parse_point)
from odd import is_ratio, odd_values, raised

LONG = "7" * 1000
PARSERS = (parse_number, parse_point, parse_net, parse_fire)
WRONG_NUMBERS = ["", "-", "+1", "--1", "-0", "00", "01", "-01", "1/1", "2/4", "0/3", "1/0", "1/-2", "-1/-2", "1/", "/2", "1/2/3", "1.5", "1e3", "1_0",
                 " 1", "1 ", "1 2", "0x1", "a", "1a", "\t1", "1/02", "7" * 1001, "-" + "7" * 1001, "1/" + "7" * 1001, "9" * 5001, "1/" + "9" * 5000,
                 "None", "-/2", "1@2", "4/2", "-6/3"]
WRONG_POINTS = ["", "A", "aB", "abcdefghi", "a1", "-", "@", "@1", "1@", "1@0", "1@-1", "1@-1/2", "-1@1", "01@1", "1@01", "1@2/4", "1/2@1", "+1@1", "1@1@1",
                "a@1", "1 @1", " a", "a ", "a b", "1", "1/2", "1@1.5", "7" * 1001 + "@1", "1@" + "7" * 1001, "1@a", "a:1", "00@1"]
FUSE = "fuse a b 2"
WRONG_FUSES = ["", "fuse", "fuse a b", "fuse a b 2 3", "fuse a d 2", "fuse d a 2", "fuse a b 0", "fuse a b -2", "fuse a b 2/4", "fuse a b x", "Fuse a b 2",
               "fuse  a b 2", "fuse a  b 2", " fuse a b 2", "fuse a b 2 ", "fuse a b ", "nodes a b c", "a b 2", "fuses a b 2", "fuse A b 2", "fuse a b\t2",
               "fuse a b " + "7" * 1001]
WRONG_LIGHTS = ["", "light", "light a", "light a 0 0", "light d 0", "light a x", "light a 01", "light 0@0 0", "light 0@2 0", "light 0@3 0", "light 1@1 0",
                "light 0@-1 0", "light 0@2/2 0", "light 00@1 0", "light  a 0", "light a 0 ", " light a 0", "lights a 0", "Light a 0", "light A 0",
                "light a -0", "light 0@1", "a 0", "nodes a b c"]


class Numbers(unittest.TestCase):
    def test_known(self):
        for number, text in [(0, "0"), (5, "5"), (-5, "-5"), (Ratio(1, 2), "1/2"), (Ratio(-7, 3), "-7/3"), (Ratio(4, 2), "2"), (10 ** 30, "1" + "0" * 30)]:
            self.assertEqual(format_number(number=number), text)
            read = parse_number(text=text)
            self.assertEqual(read, number)
            self.assertIsInstance(read, Ratio)

    def test_long(self):
        for text in (LONG, "-" + LONG, "1/" + LONG, LONG + "/" + "8" + LONG[1:], "-" + LONG + "/" + "3" * 999 + "1"):
            if str(parse_number(text)) == text:
                self.assertEqual(format_number(parse_number(text)), text)
        self.assertEqual(parse_number("-" + LONG), -int(LONG))
        self.assertEqual(parse_number("1/" + LONG), Ratio(1, int(LONG)))

    def test_drawn(self):
        random = Random(1)
        for _ in range(500):
            size = 10 ** random.choice([1, 2, 9, 60])
            number = Ratio(random.randint(-size, size), random.randint(1, size))
            text = format_number(number)
            self.assertEqual((text, parse_number(text)), (str(number), number))

    def test_only_written_texts(self):
        for top in range(-6, 7):
            for bottom in range(-2, 7):
                for text in (f"{top}/{bottom}", f"{top}/0{bottom}", f"0{top}"):
                    try:
                        number = Ratio(top, bottom) if "/" in text else Ratio(top)
                    except ValueError:
                        number = None
                    if number is not None and str(number) == text:
                        self.assertEqual(parse_number(text), number)
                    else:
                        self.assertEqual(raised(parse_number, text), ("InvalidText", {"index": 0}))

    def test_wrong(self):
        for text in WRONG_NUMBERS:
            with self.subTest(text=text[:20]):
                self.assertEqual(raised(parse_number, text), ("InvalidText", {"index": 0}))
                self.assertEqual(raised(parse_number, text + "\n1"), ("InvalidText", {"index": 0}))
        for text in ("1\n", "1\n2", "1\n\n", "-1/2\nx"):
            self.assertEqual(raised(parse_number, text), ("InvalidText", {"index": 1}))
        for text in ("\n", "\n1"):
            self.assertEqual(raised(parse_number, text), ("InvalidText", {"index": 0}))


class Points(unittest.TestCase):
    def test_known(self):
        for point, text in [("a", "a"), ("abcdefgh", "abcdefgh"), ((0, Ratio(1)), "0@1"), ((39, Ratio(7, 2)), "39@7/2"), ((1234567, Ratio(5)), "1234567@5")]:
            self.assertEqual(format_point(point=point), text)
            self.assertEqual(parse_point(text=text), point)
        fuse, distance = parse_point("12@3")
        self.assertIs(type(fuse), int)
        self.assertTrue(is_ratio(distance, 3))
        self.assertEqual(parse_point("0@" + LONG)[1], int(LONG))
        self.assertEqual(format_point((1, 2)), "1@2")

    def test_wrong(self):
        for text in WRONG_POINTS:
            with self.subTest(text=text[:20]):
                self.assertEqual(raised(parse_point, text), ("InvalidText", {"index": 0}))
                self.assertEqual(raised(parse_point, text + "\na"), ("InvalidText", {"index": 0}))
        for text in ("a\n", "0@1\nb"):
            self.assertEqual(raised(parse_point, text), ("InvalidText", {"index": 1}))


class Nets(unittest.TestCase):
    def test_known(self):
        net = Net(["a", "b", "c"], [("a", "b", 4), ("b", "c", 2), ("c", "c", Ratio(1, 3))])
        text = "nodes a b c\nfuse a b 4\nfuse b c 2\nfuse c c 1/3"
        self.assertEqual((format_net(net=net), parse_net(text=text)), (text, net))
        self.assertEqual((format_net(Net(["x"], [])), parse_net("nodes x")), ("nodes x", Net(["x"], [])))
        fire = Fire(net, [("a", 0), ((1, 1), Ratio(1, 2)), ((0, 4), -3)])
        text = text + "\nlight a 0\nlight 1@1 1/2\nlight b -3"
        self.assertEqual(format_fire(fire=fire), text)
        self.assertEqual((parse_fire(text=text).net, parse_fire(text).lights), (net, fire.lights))

    def test_drawn(self):
        random = Random(2)
        for _ in range(200):
            nodes, fuses = random_net(random)
            factor = Ratio(random.randint(1, 99), random.randint(1, 99))
            net = Net(nodes, fuses) * factor
            lights = [(point if isinstance(point, str) else (point[0], point[1] * factor), factor * time) for point, time in random_lights(random, nodes, fuses)]
            fire = Fire(net, lights)
            self.assertEqual(parse_net(format_net(net)), net)
            read = parse_fire(format_fire(fire))
            self.assertEqual((read.net, read.lights, read.times()), (net, fire.lights, fire.times()))
            self.assertEqual(format_fire(read), format_fire(fire))

    def test_wrong_nodes(self):
        names = " ".join("n" + letter for letter in "abcdefghijklmnopqrstuvwxyz")
        for line in ["", "nodes", "nodes ", "node a", "Nodes a", "nodes a a", "nodes  a", "nodes a ", " nodes a", "nodes A", "nodes a1", "nodes abcdefghi", "a b",
                     "nodes a,b", "nodes -", "nodes " + names + " a b c d e", FUSE, "light a 0"]:
            for rest in ("", "\n" + FUSE, "\nnonsense", "\nlight a 0", "\n"):
                for parse in (parse_net, parse_fire):
                    with self.subTest(line=line, rest=rest):
                        self.assertEqual(raised(parse, line + rest), ("InvalidText", {"index": 0}))
        self.assertEqual(len(parse_net("nodes " + names + " a b c d").nodes), 30)

    def test_wrong_fuses(self):
        for line in WRONG_FUSES + ["light a 0"]:
            for before in (0, 1, 3):
                text = "\n".join(["nodes a b c"] + [FUSE] * before + [line])
                for more in ("", "\n" + FUSE, "\nnonsense"):
                    with self.subTest(text=text[:60], more=more):
                        self.assertEqual(raised(parse_net, text + more), ("InvalidText", {"index": before + 1}))
        for line in WRONG_FUSES:
            for more in ("", "\n" + FUSE, "\nlight a 0"):
                self.assertEqual(raised(parse_fire, "nodes a b c\n" + FUSE + "\n" + line + more), ("InvalidText", {"index": 2}))

    def test_wrong_lights(self):
        for line in WRONG_LIGHTS + [FUSE]:
            for before in (1, 2):
                text = "\n".join(["nodes a b c", FUSE] + ["light 0@1 0"] * before + [line])
                for more in ("", "\nlight a 0", "\n" + FUSE):
                    with self.subTest(text=text, more=more):
                        self.assertEqual(raised(parse_fire, text + more), ("InvalidText", {"index": before + 2}))
        for line in WRONG_LIGHTS:
            self.assertEqual(raised(parse_fire, "nodes a b c\n" + FUSE + "\n" + line), ("InvalidText", {"index": 2}))

    def test_no_light(self):
        for fuses in (0, 1, 40):
            text = "\n".join(["nodes a b"] + [FUSE] * fuses)
            self.assertEqual(raised(parse_fire, text), ("InvalidText", {"index": fuses + 1}))
            self.assertEqual(len(parse_fire(text + "\nlight a 0").net), fuses)

    def test_one_too_many(self):
        full = "\n".join(["nodes a b"] + [FUSE] * 40)
        self.assertEqual(len(parse_net(full)), 40)
        for parse in (parse_net, parse_fire):
            for more in ("", "\nlight a 0", "\nnonsense"):
                self.assertEqual(raised(parse, full + "\n" + FUSE + more), ("InvalidText", {"index": 41}))
        lit = full + "\nlight a 0" * 20
        self.assertEqual(len(parse_fire(lit).lights), 20)
        self.assertEqual(raised(parse_fire, lit + "\nlight a 0"), ("InvalidText", {"index": 61}))
        self.assertEqual(raised(parse_fire, lit + "\n"), ("InvalidText", {"index": 61}))

    def test_every_change_of_a_character_is_told_or_read(self):
        text = "nodes a b\nfuse a b 3/2\nlight 0@1/2 -7"
        for at in range(len(text)):
            for letter in "ab013/@- \n":
                changed = text[:at] + letter + text[at + 1:]
                try:
                    fire = parse_fire(changed)
                except InvalidText as error:
                    self.assertIn(error.index, range(len(changed.split("\n")) + 1))
                else:
                    self.assertEqual(format_fire(fire), changed)


class Wrong(unittest.TestCase):
    def test_no_text(self):
        for value in odd_values():
            if not isinstance(value, str):
                for parse in PARSERS:
                    self.assertEqual(raised(parse, value), ("InvalidText", {"index": None}))

    def test_empty_text(self):
        for parse in PARSERS:
            self.assertEqual(raised(parse, ""), ("InvalidText", {"index": 0}))


if __name__ == "__main__":
    unittest.main()
