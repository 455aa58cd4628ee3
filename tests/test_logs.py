"""[20.4], [20.5]: the log of a desk, its lines, and what is read of it."""

import re
import unittest

from pauseplay.errors import InvalidText, ParseError, PlayError, Refused, TooMany, UnknownName
from pauseplay.house.desk import Desk, read_log
from pauseplay.machine.machines import Machine, machine_fault
from tests.drawn import busy_machine, drawn_standing, seeded
from tests.kinds import GREATEST, LAMP, Calls, nested
from tests.test_desk import drawn_changes, watched_desk
from tests.test_ways import at

LOG = (
    "desk 2\nplace 1<=3,2<5\nplace -\nplace 2<2\ndeed own 0 1 1>=1,2<4 2\ndeed foe 0 2 2>1 2\ndeed own 1 2 1>4 -\ndeed foe 2 0 - 1"
)

WORKED = (
    "desk 1\nplace -\nplace -\ndeed own 0 1 1>=1,1<3 -\nwatch go 1 0 2 1\nedit put 1 foe 0 0 1>1 1; limits 0 1<=5\nwatch a - 1 1 9\n"
    "edit deed 0 own 0 1 1>2 1; take 1; place 1<7; put 1 foe 2 0 - -\nunwatch go"
)

RULES = r"(?:-|\d+(?:<=|<|>=|>)\d+(?:,\d+(?:<=|<|>=|>)\d+)*)"

ROW = r"(?:-|\d+(?:,\d+)*)"

DEED = rf"(\S+) (\d+) (\d+) ({RULES}) ({ROW})"


def plain_rules(text):
    """The rules of a text, as a person reads them."""
    found = []
    for clock, sign, number in re.findall(r"(\d+)([<>]=?)(\d+)", text):
        clock, number, end = int(clock), int(number), int(sign[1:] == "=")
        found.append((clock, 0, (number, end)) if sign[0] == "<" else (0, clock, (-number, end)))
    return tuple(found)


def plain_row(text):
    return tuple(int(number) for number in re.findall(r"\d+", text))


def plain_deed(told):
    owner, start, goal, rules, back = told
    return (owner, int(start), int(goal), plain_rules(rules), plain_row(back))


def plain_change(text):
    """The change that a text tells, None for none."""
    if told := re.fullmatch(rf"(deed|put) (\d+) {DEED}", text):
        return (told[1], int(told[2]), plain_deed(told.groups()[2:]))
    if told := re.fullmatch(r"take (\d+)", text):
        return ("take", int(told[1]))
    if told := re.fullmatch(rf"limits (\d+) ({RULES})", text):
        return ("limits", int(told[1]), plain_rules(told[2]))
    if told := re.fullmatch(rf"place ({RULES})", text):
        return ("place", plain_rules(told[1]))
    return None


def is_line_done(desk, line):
    """Do with the desk what the line tells; whether that can be done."""
    try:
        if line.startswith("edit "):
            desk.edit(tuple(plain_change(text) for text in line[5:].split("; ")))
        elif told := re.fullmatch(rf"watch (\S*) ({ROW}) (\d+) (\d+) ({ROW})", line):
            desk.watch(told[1], plain_row(told[2]), (int(told[3]), (int(told[4]), plain_row(told[5]))))
        elif told := re.fullmatch(r"unwatch (\S*)", line):
            desk.unwatch(told[1])
        else:
            return False
    except (PlayError, Refused, TooMany, UnknownName):
        return False
    return True


def plain_fault(text):
    """The index of the first line that cannot stand, None for a log."""
    lines = text.split("\n")
    zeros = [index for index, line in enumerate(lines) if re.search(r"(?<![0-9])0[0-9]", line)]
    first = re.fullmatch(r"desk ([0-4])", lines[0])
    if not first:
        return 0
    clocks, places, deeds, desk = int(first[1]), [], [], None
    for index, line in enumerate(lines[1:], start=1):
        if index in zeros:
            return index
        place, deed = re.fullmatch(rf"place ({RULES})", line), re.fullmatch("deed " + DEED, line)
        if desk is None and place and not deeds:
            places.append(plain_rules(place[1]))
            if machine_fault(clocks, (places[-1],), ()) is not None:
                return index
        elif desk is None and deed:
            deeds.append(plain_deed(deed.groups()))
            if machine_fault(clocks, ((),) * 12, (deeds[-1],)) is not None:
                return index
        else:
            if desk is None:
                if machine_fault(clocks, tuple(places), tuple(deeds)) is not None:
                    return index
                desk = Desk(Machine(clocks, tuple(places), tuple(deeds)))
            if not is_line_done(desk, line):
                return index
    return len(lines) if desk is None and machine_fault(clocks, tuple(places), tuple(deeds)) is not None else None


def drawn_desks(name, many):
    """Desks with something done."""
    random = seeded(name)
    for turn in range(many):
        desk = Desk(busy_machine(random, turn % 5, random.choice((2, 20))))
        for _ in range(random.randint(0, 8)):
            kind = random.choice(("edit", "edit", "watch", "unwatch"))
            try:
                if kind == "edit":
                    desk.edit(drawn_changes(random, desk.machine))
                elif kind == "watch":
                    goals = tuple(sorted(random.sample(range(len(desk.machine.places)), random.randint(0, 2))))
                    desk.watch(random.choice(("a", "b", "edit")), goals, drawn_standing(random, desk.machine))
                elif desk.watches:
                    desk.unwatch(random.choice(desk.watches))
            except Refused:
                pass
        yield random, desk


class LogsTest(Calls, unittest.TestCase):
    def assert_spot(self, spot, text):
        self.assert_kept(ParseError, "spot", spot, read_log, text)

    def test_log(self):
        self.assertEqual(Desk(LAMP).log(), LOG)
        desk = watched_desk()
        desk.edit((("put", 1, ("foe", 0, 0, ((0, 1, (-1, 0)),), (1,))), ("limits", 0, ((1, 0, (5, 1)),))))
        desk.watch("a", (), at(9, 1, 1))
        desk.edit((
            ("deed", 0, ("own", 0, 1, ((0, 1, (-2, 0)),), (1,))), ("take", 1), ("place", ((1, 0, (7, 0)),)), ("put", 1, ("foe", 2, 0, (), ())),
        ))
        desk.unwatch("go")
        self.assertEqual(desk.log(), WORKED)
        # Undone things are left out.
        desk.undo(2)
        self.assertEqual(desk.log(), "\n".join(WORKED.split("\n")[:-2]))
        free = Desk(Machine(0, ((),), (("own", 0, 0, (), ()),)))
        free.watch("a", (0,), (0, (7, ())))
        self.assertEqual(free.log(), "desk 0\nplace -\ndeed own 0 0 - -\nwatch a 0 0 1 -")
        self.assertIs(read_log(free.log()) == free, True)

    def test_the_first_machine_is_told(self):
        desk = watched_desk()
        desk.edit((("take", 0),))
        self.assertEqual(desk.log().split("\n")[3:], ["deed own 0 1 1>=1,1<3 -", "watch go 1 0 2 1", "edit take 0"])

    def test_read_back(self):
        for _, desk in drawn_desks("logs", 80):
            log = desk.log()
            again = read_log(log)
            self.assertIs(again == desk, True)
            self.assertEqual((again.log(), again.machine, again.done, again.watches), (log, desk.machine, desk.done, desk.watches))
            self.assertEqual([again.answer(name) for name in again.watches], [desk.answer(name) for name in desk.watches])
            self.assertIsNone(plain_fault(log))
            for text in log.split("\n"):
                self.assertEqual(text, text.strip(" "))
            if again.done:
                again.undo(again.done)
            first = [line for line in log.split("\n") if line.split(" ")[0] in ("desk", "place", "deed")]
            self.assertEqual(again.log(), "\n".join(first))

    def test_just_the_logs(self):
        # Each line bent, put in, left out, twice, moved; words and signs likewise.
        kinds = {True: 0, False: 0}
        spots = {}
        for random, desk in drawn_desks("bent logs", 80):
            for _ in range(20):
                bent = self.bent(random, desk.log())
                expected = plain_fault(bent)
                kinds[expected is None] += 1
                if expected is None:
                    read_log(bent)
                else:
                    spots[expected] = spots.get(expected, 0) + 1
                    self.assert_spot(expected, bent)
        self.assertGreater(min(kinds.values()), 150)
        for spot in range(10):
            self.assertGreater(spots[spot], 5)

    def bent(self, random, text):
        if random.random() < 0.1:
            return text[:random.randrange(len(text))]
        parts = re.split(random.choice(("(\n)", "([ \n;,])", "()")), text)
        index, other = random.randrange(len(parts)), random.randrange(len(parts))
        kind = random.choice(("out", "twice", "moved", "word", "swap"))
        if kind == "out":
            del parts[index]
        elif kind == "twice":
            parts.insert(other, parts[index])
        elif kind == "moved":
            parts.insert(other, parts.pop(index))
        elif kind == "swap":
            parts[index], parts[other] = parts[other], parts[index]
        else:
            parts[index] = random.choice(("", " ", "-", "0", "1", "01", "21", "own", "foe", "1<3", "1>=0", "2<=20", ",", "; ", "<", "\n", "watch a - 0 1 -", "unwatch a", "take 0", "edit take 0", "place -", "deed own 0 0 - -", "A"))
        return "".join(parts)

    def test_lines(self):
        lines = WORKED.split("\n")
        for index, line, spot in (
            (0, "desk 0", 3), (0, "desk 5", 0), (0, "desk", 0), (0, "desk ", 0), (0, "desk 01", 0), (0, "desk -1", 0), (0, "desk 1 ", 0), (0, "desk  1", 0), (0, "Desk 1", 0), (0, "", 0),
            (0, "desk x", 0), (0, "desk 4", 4), (0, "desk " + "1" * 5000, 0), (1, "place", 1), (1, "place ", 1), (1, "place - ", 1), (1, "place  -", 1), (1, "place -,-", 1), (1, "place 1<3", None),
            (1, "place 1<=20", None), (1, "place 1<21", 1), (1, "place 1<0", 1), (1, "place 1<=0", 4), (1, "place 1>=0", 1), (1, "place 2<3", 1), (1, "place 0<3", 1), (1, "place 1<3,1<4", 1),
            (1, "place 1<03", 1), (1, "place 01<3", 1), (1, "place 1=3", 1), (1, "place 1<=3,", 1), (1, "place 1<", 1), (1, "place <3", 1), (1, "place 1=<3", 1), (1, "place 1 <3", 1), (1, "place 1<<3", 1),
            (1, "place 1<3<4", 1), (1, "places -", 1), (3, "deed own 0 1 1>=1 -", None), (3, "deed own 0 1 1>=1", 3), (3, "deed own 0 1 1>=1 - -", 3), (3, "deed own 0 2 1>=1 -", 4),
            (3, "deed own 0 11 1>=1 -", 4), (3, "deed own 0 12 1>=1 -", 3), (3, "deed mine 0 1 - -", 3), (3, "deed own 0 1 1<3,1>=1 -", 3), (3, "deed own 0 1 1>=0,1<0 -", None), (3, "deed own 0 1 - 2", 3),
            (3, "deed own 0 1 - 1,1", 3), (3, "deed own 0 1 - 0", 3), (3, "deed own 0 01 - -", 3), (3, "deed own -0 1 - -", 3), (3, "place 1<3", 5), (3, "place 1<3\ndeed own 0 1 - -", None),
            (3, "deed own 0 1 - -\nplace -", 4), (4, "watch go 1 0 4 2", None), (4, "watch go 1 0 1 0", None), (4, "watch go 1 0 0 1", 4), (4, "watch go 1 0 2 -", 4), (4, "watch go 1 0 2 1,1", 4),
            (4, "watch go 1 2 2 1", 4), (4, "watch go 2 0 2 1", 4), (4, "watch go 1,0 0 2 1", 4), (4, "watch go 0,1 0 2 1", None), (4, "watch go - 0 2 1", None), (4, "watch Go 1 0 2 1", 4), (4, "watch go 1 0 2", 4),
            (4, "watch go 1 0 2 1 ", 4), (4, "watch go  1 0 2 1", 4), (4, "watch go 1 0 02 1", 4), (4, "watch  1 0 2 1", 4), (4, "watch go 1 0 2 1\nwatch go 1 0 2 1", 5), (4, "watch go 1 0 2 " + "1" * 61, 4),
            (4, f"watch go 1 0 {GREATEST} 1", None), (4, "deed own 0 1 - -", 8), (4, "place -", 4), (4, "watch b 1 0 2 1", 8), (5, "edit", 5), (5, "edit ", 5), (5, "edit take 0", 7), (5, "edit take 1", 5), (5, "edit put 1 foe 0 0 - -", None),
            (5, "edit put 2 foe 0 0 - -", 5), (5, "edit put 1 foe 0 0 - -;take 1", 5), (5, "edit put 1 foe 0 0 - -;  take 1", 5), (5, "edit put 1 foe 0 0 - -; take 1", 7), (5, "edit put 1 foe 0 0 - -; ", 5),
            (5, "edit ; put 1 foe 0 0 - -", 5), (5, "edit put 1 foe 0 0 - -; take 41", 5), (5, "edit place - -", 5), (5, "edit limits 0 1<=5; put 1 foe 0 0 - -", None), (5, "edit limits 0 1<0", 5), (5, "edit limits 0 1<=0", 5),
            (5, "edit limits 2 -", 5), (5, "edit " + "; ".join(["place -"] * 8) + "\nedit put 1 foe 0 0 - -", None), (5, "edit " + "; ".join(["place -"] * 9), 5), (5, "edit put 1 foe 0 2 - -", 5), (5, "edit put 1 foe 0 2 - -; place -", None),
            (5, "edit put 01 foe 0 0 - -", 5), (5, "edited put 1 foe 0 0 - -", 5), (5, "desk 1", 5), (5, "", 5), (8, "unwatch b", 8), (8, "unwatch", 8), (8, "unwatch go a", 8), (8, "unwatch go ", 8), (8, "unwatch a", None), (8, "unwatch go\n", 9),
            (8, "unwatch go\nunwatch go", 9), (8, "unwatch go\nwatch go 1 0 2 5", None),
        ):
            text = "\n".join(lines[:index] + [line] + lines[index + 1:])
            self.assertEqual(plain_fault(text), spot, text)
            if spot is None:
                read_log(text)
            else:
                self.assert_spot(spot, text)

    def test_logs_that_are_cut(self):
        lines = WORKED.split("\n")
        for many in range(len(lines) + 1):
            text = "\n".join(lines[:many])
            expected = plain_fault(text)
            self.assertEqual(expected, many if many < 2 else None)
            if expected is not None:
                self.assert_spot(expected, text)
            else:
                self.assertEqual(read_log(text).log(), text)
        for many in range(1, len(WORKED)):
            expected = plain_fault(WORKED[:many])
            if expected is None:
                read_log(WORKED[:many])
            else:
                self.assert_spot(expected, WORKED[:many])

    def test_machines_that_are_none(self):
        for text, spot in (
            ("desk 1", 1), ("desk 1\ndeed own 0 0 - -", 2), ("desk 1\nunwatch a", 1), ("desk 0\n" + "\n".join(["place -"] * 12), None), ("desk 0\n" + "\n".join(["place -"] * 13), 14),
            ("desk 0\n" + "\n".join(["place -"] * 13 + ["deed own 0 0 - -"] * 2 + ["edit take 0"]), 16), ("desk 0\nplace -\n" + "\n".join(["deed own 0 0 - -"] * 40), None),
            ("desk 0\nplace -\n" + "\n".join(["deed own 0 0 - -"] * 41), 43), ("desk 0\nplace -\ndeed own 0 1 - -\ndeed foe 0 0 - -", 4), ("desk 0\nplace -\ndeed own 1 0 - -\nedit place -", 3),
            ("desk 0\nplace -\ndeed own 0 1 - -\ndeed foe 0 12 - -", 3), ("desk 0\nplace -\ndeed own 0 1 - -\nwhat", 3),
        ):
            self.assertEqual(plain_fault(text), spot, text)
            if spot is None:
                self.assertEqual(read_log(text).log(), text)
            else:
                self.assert_spot(spot, text)

    def test_points_in_other_terms(self):
        desk = read_log("desk 2\nplace -\nwatch a 0 0 4 6,8")
        self.assertEqual(desk.log(), "desk 2\nplace -\nwatch a 0 0 2 3,4")
        self.assertIs(desk == read_log("desk 2\nplace -\nwatch a 0 0 2 3,4"), True)

    def test_400_lines_and_more(self):
        begin = "desk 0\nplace -\nwatch a 0 0 1 -"
        text = begin + "\nunwatch a\nwatch a 0 0 1 -" * 199 + "\nedit place -"
        self.assertEqual(read_log(text).done, 400)
        self.assert_spot(402, text + "\nunwatch a")
        self.assert_spot(402, text + "\n")
        nine = "".join(f"\nwatch {name} 0 0 1 -" for name in "bcdefghi")
        self.assert_spot(10, begin + nine)
        self.assertEqual(len(read_log(begin + nine[:-len("\nwatch i 0 0 1 -")]).watches), 8)

    def test_values_of_another_kind(self):
        for value in (None, True, 0, 1, (), ("desk 1",), [], ["desk 1"], {}, nested(20), LAMP, Desk(LAMP)):
            self.assert_refused(InvalidText, read_log, value)
        for text in ("", "\n", "desk 1\r\nplace -", "desk\t1\nplace -", "desk \u0661\nplace -", "desk \u00b9\nplace -", " desk 1", "~" * 400000, "desk 1" + " " * 1000):
            self.assert_spot(0, text)
        self.assert_spot(1, "desk 1\n" + "place " + "1" * 300000)
        self.assert_spot(1, "desk 1\nplace 1<\u0663")
        self.assert_spot(2, "desk 1\nplace -\n" + "\n" * 1000)


if __name__ == "__main__":
    unittest.main()
