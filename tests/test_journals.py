"""Journals beside consoles, their texts cut off and changed, and replicas that are merged."""

import unittest
from copy import deepcopy
from random import Random
from time import process_time

from fusenets.console import Console
from fusenets.errors import InvalidAction, InvalidCommand, InvalidName, InvalidText
from fusenets.journals import Journal, Replica, check_number, recover
from fusenets.ratios import Ratio
from odd import Strange, odd_values, raised

LETTERS = [chr(code) for code in range(32, 127)] + ["\n"]


def check(number, text):
    """The check number of a text behind a number, all at once."""
    total = number * 257 ** len(text)
    for place, letter in enumerate(text):
        total += ord(letter) * 257 ** (len(text) - 1 - place)
    return total % 9999991


def lines_of(commands):
    """The lines of a journal with these commands, whatever they do."""
    lines, number = [], 0
    for index, command in enumerate(commands):
        number = check(number, f"{index} {command}")
        lines.append(f"{index} {command} #{str(number).rjust(7, '0')}")
    return lines


def random_command(random, users=("ann", "bob")):
    """A command, often one that can be executed."""
    user, name, other = random.choice(users), random.choice("mno"), random.choice("mno")
    if random.random() < 0.25:
        return random.choice([f"undo {user}", f"redo {user}"])
    return random.choice([
        f"net {user} {name} a,b a:b:{random.choice(['3', '5/2', '1', '0'])}", f"net {user} {name} {random.choice(['p -', 'c,d,e c:d:1,d:e:2', 'a,a -', '- -'])}",
        f"lights {user} {name} {random.choice(['a:0', 'a:0,b:1', '0@1:-1/2', '-', 'p:2', 'c:0,1@1:3'])}", f"scale {user} {name} {random.choice(['2', '1/2', '0', '-1'])}",
        f"drop {user} {name}", f"join {user} {name} {other} {random.choice(['-', 'a:c', 'b:p', 'a:a,b:b'])}",
        "names", f"show {name}", f"end {name}", f"time {name} a", f"burnt {name} 1", f"last {name}", f"fewest {name} 1", f"best {name}", "nothing", "names "])


def rows_of(text):
    """The index of the line of each character; a line feed belongs to the line that it ends."""
    return [text[:place].count("\n") for place in range(len(text))]


def outcome(doer, command):
    """The answer, or the error."""
    found = []
    error = raised(lambda: found.append(doer.execute(command)))
    return found or [error[0], str(error[1])]


def questions(doer):
    """What a console answers about all of its nets."""
    names = doer.execute("names").split(" ")
    return [names] + [doer.execute(f"{word} {name}") for name in names if name != "-" for word in ("show", "end", "last", "best")]


def drawn_journal(random, number):
    """A journal with about so many commands tried, and the commands that it has recorded."""
    journal, made = Journal(), []
    for _ in range(number):
        command = random_command(random)
        if outcome(journal, command) == ["ok"]:
            made.append(command)
    return journal, made


class Checks(unittest.TestCase):
    def test_document(self):
        journal = Journal()
        self.assertEqual(journal.execute("net u a p -"), "ok")
        text = journal.text()
        self.assertEqual((check_number(0, "ab"), text.startswith("0 net u a p - #"), len(recover(text)), len(recover(text[:-1]))), (25027, True, 1, 0))

    def test_by_hand(self):
        self.assertEqual([check_number(0, ""), check_number(5, ""), check_number(9999990, ""), check_number(0, "a"), check_number(1, " ")], [0, 5, 9999990, 97, 289])
        self.assertEqual(check_number(9999990, "b"), (9999990 * 257 + 98) % 9999991)
        self.assertEqual(check_number(number=38910, text="~"), (38910 * 257 + 126) % 9999991)
        self.assertEqual(check_number(0, "abc"), 25027 * 257 + 99)
        self.assertEqual(check_number(0, "abcd"), ((25027 * 257 + 99) * 257 + 100) % 9999991)

    def test_drawn(self):
        random = Random(1)
        for _ in range(200):
            text, number = "".join(random.choices(LETTERS, k=random.randint(0, 60))), random.randint(0, 9999990)
            self.assertEqual(check_number(number, text), check(number, text))
            half = random.randint(0, len(text))
            self.assertEqual(check_number(check_number(number, text[:half]), text[half:]), check(number, text))

    def test_seven_digits(self):
        journal = Journal()
        for index in range(200):
            journal.execute(f"net u {'abcdefghij'[index // 20]}{'abcdefghijklmnopqrst'[index % 20]} p -")
            journal.execute("undo u")
        self.assertTrue(all(len(line.split("#")[1]) == 7 for line in journal.text().split("\n")))
        self.assertTrue(any("#0" in line for line in journal.text().split("\n")))
        self.assertEqual(len(recover(journal.text())), 400)


class Journals(unittest.TestCase):
    def test_beside_a_console(self):
        for seed in range(25):
            random = Random(seed)
            journal, console, made = Journal(), Console(), []
            for _ in range(50):
                command = random_command(random)
                answer = outcome(console, command)
                self.assertEqual(outcome(journal, command), answer)
                if answer == ["ok"]:
                    made.append(command)
                self.assertEqual((journal.text(), len(journal)), ("\n".join(lines_of(made)), len(made)))
            self.assertEqual(questions(journal), questions(console))

    def test_empty(self):
        journal = Journal()
        self.assertEqual((journal.text(), len(journal), journal.execute("names")), ("", 0, "-"))
        self.assertEqual((len(recover("")), recover("").text()), (0, ""))

    def test_questions_are_not_recorded(self):
        journal = Journal()
        journal.execute("net u n a,b a:b:1")
        for command in ["names", "show n", "end n", "time n a", "burnt n 1", "last n", "fewest n 1", "best n"]:
            journal.execute(command)
        for command in ["net u n p -", "drop u m", "redo u", "undo v", "scale u n 0", "lights u n z:0", "nothing"]:
            self.assertIsNotNone(raised(journal.execute, command))
        self.assertEqual((len(journal), journal.text().split(" #")[0]), (1, "0 net u n a,b a:b:1"))
        self.assertIs(journal.text().__class__, str)

    def test_wrong_commands(self):
        journal = Journal()
        for value in odd_values() + ["net u n p - ", "net u n p -\n", "net u n p -\nnames"]:
            told = raised(journal.execute, value)
            self.assertEqual(told[0], "InvalidCommand")
            self.assertIs(told[1]["value"], value)
        self.assertEqual(len(journal), 0)
        self.assertEqual(journal.execute(command="net u n p -"), "ok")


class Recovered(unittest.TestCase):
    def test_cut_off_at_every_place(self):
        journal, made = drawn_journal(Random(2), 60)
        text, lines = journal.text(), lines_of(made)
        ends = [len("\n".join(lines[:number])) for number in range(1, len(lines) + 1)]
        for place in range(len(text) + 1):
            found = recover(text[:place])
            wanted = len([end for end in ends if end <= place])
            self.assertEqual((len(found), found.text()), (wanted, "\n".join(lines[:wanted])))

    def short(self):
        """A short text."""
        journal = Journal()
        for command in ["net u n a,b a:b:3", "lights u n a:0", "undo u", "redo u", "net v m p -"]:
            journal.execute(command)
        return journal.text()

    def test_every_character_changed(self):
        text = self.short()
        rows = rows_of(text)
        for place, letter in enumerate(text):
            for other in LETTERS:
                if other != letter:
                    found = recover(text[:place] + other + text[place + 1:])
                    self.assertEqual(len(found), rows[place], (place, other))
        self.assertEqual(len(recover(text)), 5)

    def test_every_two_neighbours_exchanged(self):
        for text in [self.short(), drawn_journal(Random(3), 60)[0].text()]:
            rows = rows_of(text)
            for place in range(len(text) - 1):
                if text[place] != text[place + 1]:
                    changed = text[:place] + text[place + 1] + text[place] + text[place + 2:]
                    self.assertEqual(len(recover(changed)), rows[place], place)

    def test_lines_left_out_doubled_and_moved(self):
        journal, made = drawn_journal(Random(4), 60)
        lines = journal.text().split("\n")
        for index, line in enumerate(lines):
            rest = lines[:index] + lines[index + 1:]
            self.assertEqual(len(recover("\n".join(rest))), index)
            self.assertEqual(len(recover("\n".join(lines[:index] + [line] + lines[index:]))), index + 1)
            self.assertEqual(len(recover("\n".join(lines[:index] + [""] + lines[index:]))), index)
            for place in range(len(lines)):
                if place != index:
                    self.assertEqual(len(recover("\n".join(rest[:place] + [line] + rest[place:]))), min(place, index))

    def test_right_check_number_but_wrong_command(self):
        good = ["net u n a,b a:b:3", "lights u n a:0"]
        for bad in ["net u n p -", "drop u m", "redo u", "undo v", "scale u n 0", "names", "show n", "end n", "nothing", "", " ", "net u m p - ", "net  u m p -",
                    "net u m p -x", "NET u m p -", "lights u n z:0", "net u m a,a -", "join u n n -", "net u m p - #0000000"]:
            for place in range(3):
                commands = good[:place] + [bad] + good[place:]
                wanted = place if place else 0
                found = recover("\n".join(lines_of(commands)))
                if place == 0 and bad == "net u n p -":
                    wanted = 1
                self.assertEqual(len(found), wanted, (bad, place))
        self.assertEqual(len(recover("\n".join(lines_of(good + ["undo u", "redo u", "drop v n"])))), 5)

    def test_nothing_is_recovered_behind_a_line_that_is_none(self):
        lines = lines_of(["net u n a,b a:b:3", "lights u n a:0"])
        bad = lines_of(["net u n a,b a:b:3", "names"])[1]
        self.assertEqual((len(recover("\n".join(lines))), len(recover("\n".join([lines[0], bad, lines[1]])))), (2, 1))

    def test_numbers_of_another_form(self):
        lines = lines_of(["net u n p -", "net u m p -"])
        head, number = lines[0].rsplit(" #", 1)
        digits = "1" * 5000
        for line in [f"{head} #{number} ", f" {lines[0]}", f"{head} # {number}", f"{head} #0{number}", f"{head} #{number[:-1]}", f"{head} #{number}0",
                     f"{head} #{int(number)}.0", f"{head}  #{number}", f"{head}#{number}", f"{head} {number}", f"{head} #{number}\r", f"{head} #+{number[1:]}",
                     f"{head} #{digits}", f"{head} #{number}{'0' * 5000}", f"{digits}{lines[0]}", f"{digits} net u n p - #{number}", f"{'0' * 5000} net u n p - #{number}"]:
            self.assertEqual(len(recover(line)), 0, line[:40])
            self.assertEqual(len(recover(line + "\n" + lines[1])), 0)
        for start in ["00", "+0", "-0", "0.", "", "1", "0" * 4400, "9" * 4400, "a"]:
            changed = f"{start} net u n p -"
            self.assertEqual(len(recover(f"{changed} #{str(check(0, changed)).rjust(7, '0')}")), 0)
        self.assertEqual(len(recover("\n".join(lines))), 2)
        second = "01 net u m p -"
        self.assertEqual(len(recover(f"{lines[0]}\n{second} #{str(check(int(number), second)).rjust(7, '0')}")), 1)
        other = lines_of(["net u m p -"])[0].replace("0 net", "1 net")
        self.assertEqual(len(recover(lines[0] + "\n" + other)), 1)

    def test_short_check_numbers(self):
        for index in range(3000):
            word = "".join("abcdefghij"[int(digit)] for digit in str(index))
            command = f"net u {word} p -"
            line = lines_of([command])[0]
            if line.split("#")[1].startswith("00"):
                self.assertEqual(len(recover(line)), 1)
                for cut in ("#0", "#00"):
                    self.assertEqual(len(recover(line.replace(cut, "#", 1))), 0)
                return
        self.fail("no short check number")

    def test_goes_on_in_the_same_way(self):
        for seed in range(15):
            random = Random(100 + seed)
            journal, made = drawn_journal(random, 50)
            other = recover(journal.text())
            self.assertEqual((other.text(), len(other), questions(other)), (journal.text(), len(made), questions(journal)))
            for _ in range(40):
                command = random_command(random)
                self.assertEqual(outcome(other, command), outcome(journal, command))
                self.assertEqual(other.text(), journal.text())

    def test_a_recovered_journal_is_its_own(self):
        journal, _ = drawn_journal(Random(5), 30)
        text = journal.text()
        one, two = recover(text), recover(text)
        one.execute("net zed q p -")
        self.assertEqual((len(two), two.text(), journal.text()), (len(journal), text, text))

    def test_texts(self):
        for value in odd_values() + [b"0 net u n p - #1234567"]:
            if isinstance(value, str):
                self.assertEqual(len(recover(value)), 0)
            else:
                self.assertEqual(raised(recover, value), ("InvalidText", {"index": None}))
        self.assertRaises(InvalidText, recover, text=None)

    def test_long_journals_soon(self):
        random, journal = Random(6), Journal()
        while len(journal) < 180:
            outcome(journal, random_command(random))
        text = journal.text()
        start = process_time()
        found = recover(text)
        self.assertLess(process_time() - start, 1)
        self.assertEqual((len(found), found.text()), (180, text))


class Replicas(unittest.TestCase):
    def test_document(self):
        one, other = Replica("ann"), Replica("bob")
        self.assertEqual([one.execute("net ann n a,b a:b:3"), other.execute("net bob n x -")], ["ok", "ok"])
        self.assertEqual([one.merge(other.entries()), other.merge(one.entries())], [1, 1])
        self.assertEqual((one.entries() == other.entries(), one.skipped(), other.execute("show n")), (True, [(1, "bob", "net bob n x -")], "nodes a b\nfuse a b 3"))

    def test_stamps(self):
        one = Replica("ann")
        self.assertEqual((one.entries(), one.skipped(), len(one)), ([], [], 0))
        one.execute("net ann n p -")
        one.execute("names")
        self.assertIsNotNone(raised(one.execute, "net ann n p -"))
        one.execute("drop ann n")
        self.assertEqual(one.entries(), [(1, "ann", "net ann n p -"), (2, "ann", "drop ann n")])
        one.merge([(10 ** 30, "zed", "undo zed")])
        one.execute("undo ann")
        self.assertEqual((one.entries()[-1], len(one)), ((10 ** 30 + 1, "ann", "undo ann"), 4))
        self.assertEqual(one.skipped(), [(10 ** 30, "zed", "undo zed")])

    def test_order_by_stamp_then_user(self):
        one = Replica("mia")
        entries = [(2, "b", "undo b"), (1, "zz", "net zz n p -"), (10, "a", "undo a"), (1, "ab", "net ab n q -"), (9, "b", "undo b"), (1, "b", "net b n r -")]
        self.assertEqual(one.merge(entries), 6)
        self.assertEqual([entry[:2] for entry in one.entries()], [(1, "ab"), (1, "b"), (1, "zz"), (2, "b"), (9, "b"), (10, "a")])
        self.assertEqual(one.execute("show n"), "nodes q")
        self.assertEqual([entry[:2] for entry in one.skipped()], [(1, "b"), (1, "zz"), (2, "b"), (9, "b"), (10, "a")])

    def test_skipped_commands_come_back(self):
        one = Replica("ann")
        one.merge([(5, "bob", "lights bob n a:0"), (6, "bob", "undo bob")])
        self.assertEqual(len(one.skipped()), 2)
        self.assertEqual(one.merge([(4, "bob", "net bob n a,b a:b:3")]), 1)
        self.assertEqual((one.skipped(), one.execute("end n")), ([], "never"))
        self.assertEqual(one.merge([(7, "bob", "redo bob")]), 1)
        self.assertEqual(one.execute("end n"), "3")

    def test_users(self):
        for value in odd_values()[:-1] + ["Ann", "ann "]:
            told = raised(Replica, value)
            self.assertEqual(told[0], "InvalidName")
            self.assertIs(told[1]["value"], value)
        self.assertRaises(InvalidName, Replica, user=None)
        Replica(user="ann")

    def test_wrong_commands(self):
        one = Replica("ann")
        one.execute("net ann n p -")
        state = (one.entries(), one.execute("show n"))
        for value in odd_values() + ["net bob m p -", "undo bob", "redo bob", "lights bob n p:0", "scale bob n 2", "drop bob n", "join bob n n -", "drop bob zz", "net bob n p -"]:
            told = raised(one.execute, value)
            self.assertEqual(told[0], "InvalidCommand")
            self.assertIs(told[1]["value"], value)
        for command, error in [("drop ann m", "UnknownName"), ("net ann n p -", "NameTaken"), ("net ann m a,a -", "InvalidNet"), ("redo ann", "NothingToUndo"),
                               ("end m", "UnknownName"), ("fewest n 0", "InvalidNumber"), ("scale ann n 0", "InvalidNumber"), ("lights ann n z:0", "InvalidLights")]:
            self.assertEqual(raised(one.execute, command)[0], error)
        self.assertEqual((one.entries(), one.execute("show n")), state)
        self.assertEqual(one.execute(command="undo ann"), "ok")

    def test_wrong_entries(self):
        one = Replica("ann")
        one.execute("net ann n p -")
        good = [(2, "bob", "net bob m p -"), (3, "cat", "undo cat")]
        state = (one.entries(), one.skipped(), one.execute("names"))
        for value in odd_values() + [tuple(good), {good[0]: 1}, good[0]]:
            if value.__class__ is not list:
                told = raised(one.merge, value)
                self.assertEqual(told[0], "InvalidAction")
                self.assertIs(told[1]["value"], value)
        wrong = odd_values() + [list(good[0]), good[0][:2], good[0] + (0,), (0, "bob", "undo bob"), (-1, "bob", "undo bob"), (True, "bob", "undo bob"), ("1", "bob", "undo bob"),
                                (Ratio(1), "bob", "undo bob"), (1, "Bob", "undo Bob"), (1, "bob", "undo ann"), (1, "bob", "names"), (1, "bob", "show bob"), (1, "bob", "undo  bob"),
                                (1, "bob", "undo bob "), (1, "bob", "undo bob\n"), (1, "bob", None), (1, "bob", b"undo bob"), (1, None, "undo bob"), (1, Strange(), "undo bob"), (1, "", "undo "), (1, "bob", ""),
                                (1, "bob", Strange()), (Strange(), "bob", "undo bob"), (1, "bob", "net bob n p"), (1, "bobbobbob", "undo bobbobbob")]
        for value in wrong:
            for entries in [[value], good + [value], [value] + good, good + [value, None], good[:1] + [value] + good[1:]]:
                told = raised(one.merge, entries)
                self.assertEqual(told[0], "InvalidAction")
                self.assertIs(told[1]["value"], value)
        for entries, value in [([(1, "ann", "undo ann")], (1, "ann", "undo ann")), (good + [(2, "bob", "undo bob")], (2, "bob", "undo bob")),
                               ([(2, "bob", "undo bob")] + good, good[0]), (good + [(1, "ann", "net ann n q -")] + [None], (1, "ann", "net ann n q -"))]:
            self.assertEqual(raised(one.merge, entries), ("InvalidAction", {"value": value}))
        self.assertEqual((one.entries(), one.skipped(), one.execute("names")), state)
        self.assertEqual(one.merge(entries=good), 2)

    def test_commands_that_cannot_be_executed_are_entries(self):
        one = Replica("ann")
        for stamp, command in enumerate(["net bob n a,a -", "net bob n - -", "net bob n a a:a:0", "scale bob n -1", "drop bob zz", "join bob n n -"], 1):
            self.assertEqual(one.merge([(stamp, "bob", command)]), 1)
        self.assertEqual(one.skipped(), one.entries())

    def test_the_same_entry_again(self):
        one = Replica("ann")
        one.execute("net ann n p -")
        entry = (1, "bob", "net bob m p -")
        self.assertEqual([one.merge([entry, entry, entry]), one.merge([entry] + one.entries()), one.merge([])], [1, 0, 0])
        self.assertEqual((len(one), one.execute("names")), (2, "m n"))

    def test_own_entries_from_elsewhere(self):
        one = Replica("ann")
        self.assertEqual(one.merge([(7, "ann", "net ann n p -")]), 1)
        one.execute("drop ann n")
        self.assertEqual(one.entries()[-1], (8, "ann", "drop ann n"))
        self.assertEqual(one.execute("undo ann"), "ok")
        self.assertEqual(one.execute("names"), "n")

    def test_later_changes(self):
        one = Replica("ann")
        entries = [(1, "bob", "net bob n p -"), (2, "bob", "redo bob")]
        copies = deepcopy(entries)
        one.merge(entries)
        self.assertEqual(entries, copies)
        entries.clear()
        one.entries().clear()
        one.skipped().clear()
        self.assertEqual((one.entries(), one.skipped(), len(one)), (copies, copies[1:], 2))

    def test_drawn_replicas_agree(self):
        for seed in range(25):
            random = Random(seed)
            users = ["ann", "bob", "cat"]
            replicas = [Replica(user) for user in users]
            for _ in range(60):
                one = random.randrange(3)
                if random.random() < 0.7:
                    outcome(replicas[one], random_command(random, users))
                else:
                    entries = replicas[random.randrange(3)].entries()
                    some = random.sample(entries, random.randint(0, len(entries)))
                    new = len([entry for entry in some if entry not in replicas[one].entries()])
                    self.assertEqual(replicas[one].merge(some), new)
                self.check_state(replicas[one])
            for one, other in [(0, 1), (2, 0), (1, 2), (2, 1), (0, 2), (1, 0), (0, 1)]:
                replicas[one].merge(replicas[other].entries())
            found = [(replica.entries(), replica.skipped(), len(replica), questions(replica)) for replica in replicas]
            self.assertEqual(found[0], found[1])
            self.assertEqual(found[0], found[2])
            for replica in replicas:
                self.assertEqual(replica.merge(replicas[0].entries()[::-1]), 0)
                self.assertEqual((replica.entries(), replica.skipped(), questions(replica)), (found[0][0], found[0][1], found[0][3]))

    def check_state(self, replica):
        """The state is that of a console with all commands in order."""
        console, skipped = Console(), []
        self.assertEqual(replica.entries(), sorted(replica.entries()))
        for entry in replica.entries():
            if outcome(console, entry[2]) != ["ok"]:
                skipped.append(entry)
        self.assertEqual((replica.skipped(), questions(replica), len(replica)), (skipped, questions(console), len(replica.entries())))


if __name__ == "__main__":
    unittest.main()
