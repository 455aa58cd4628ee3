"""[18.1] to [18.4]: names, the texts of machines, of standings and of plays."""

import re
import unittest
from fractions import Fraction
from math import gcd

from pauseplay.errors import InvalidMachine, InvalidName, InvalidOperation, InvalidStanding, InvalidText, ParseError
from pauseplay.game.plays import played
from pauseplay.machine.machines import Machine, machine_fault
from pauseplay.texts import texts
from pauseplay.texts.texts import play_text, read_machine, read_play, read_standing, standing_text, text_of
from tests.drawn import busy_machine, drawn_machine, drawn_standing, is_let, point_showing, seeded, shown_by
from tests.kinds import GREATEST, LAMP, NOT_MACHINES, NOT_PAUSES, NOT_STANDINGS, TOO_GREAT, Calls, nested
from tests.test_ways import at

NAMES = (("x", "y"), ("wait", "done"), ("go", "ring"))

GATE = Machine(2, (((1, 0, (3, 1)),), ()), (("own", 0, 1, ((0, 2, (-1, 0)), (1, 0, (2, 0))), (2,)), ("foe", 0, 0, (), ())))

TEXT = "clocks x y\nplace wait x <= 3\nplace done\nown go wait done y > 1 x < 2 back y\nfoe ring wait wait\n"

WORDS = ("clocks", "place", "own", "foe", "back", "let", "after", "but")

# What is no text of any kind: of another kind, with a sign that is not let, too long.
NOT_TEXTS = (
    (None, True, 0, 1, (), ("clocks",), [], ["clocks"], {}, nested(20), GATE, "clocks\t\n", "clocks\r\n", "clocks x\x00\n", "clocks \x7f\n", "a" * 20001, "\n" * 20001)
    + ("clocks x\nplace a x \u2264 3\n", "\u00e9", TEXT + " " * (20001 - len(TEXT)))
)


def drawn_name(random, used):
    """A name that is not among these, and no word."""
    while True:
        name = "".join(random.choice("abcxyz") for _ in range(random.choice((1, 1, 2, 3, 8))))
        if name not in used and name not in WORDS:
            used.add(name)
            return name


def drawn_names(random, machine):
    """Names of a machine; some stand in two of the tuples."""
    found = []
    for many in (machine.clocks, len(machine.places), len(machine.deeds)):
        used = set()
        found.append(tuple(drawn_name(random, used) for _ in range(many)))
    return tuple(found)


def drawn_ones(name, many):
    """Drawn machines with names."""
    random = seeded(name)
    for turn in range(many):
        machine = drawn_machine(random) if turn % 2 else busy_machine(random, turn % 5, random.choice((1, 4, 20)))
        yield random, machine, drawn_names(random, machine)


RULES = r"((?: \S+ (?:<=|<|>=|>) (?:0|[1-9]\d*))*)"


def plain_rules(clocks, text):
    """The rules that a text tells, as a person reads them; None if a clock is unknown."""
    found = []
    for clock, sign, number in re.findall(r" (\S+) (\S+) (\d+)", text):
        if clock not in clocks:
            return None
        index, number = clocks.index(clock) + 1, int(number)
        found.append((index, 0, (number, int(sign == "<="))) if sign in ("<", "<=") else (0, index, (-number, int(sign == ">="))))
    return tuple(found)


def plain_fault(text):
    """The index of the first line that cannot stand, None for a text of a machine: by a machine of what is read up to there."""
    whole = text.split("\n")
    clocks, places, deeds, names = [], [], [], ([], [])
    for index, line in enumerate(whole[:-1]):
        first, place = re.fullmatch(r"clocks((?: \S+)*)", line), re.fullmatch(r"place (\S+)" + RULES, line)
        deed = re.fullmatch(r"(own|foe) (\S+) (\S+) (\S+)" + RULES + r"(?: back((?: \S+)+))?", line)
        if index == 0:
            if not first:
                return 0
            clocks = first[1].split()
        elif place and not deeds:
            names[0].append(place[1])
            places.append(plain_rules(clocks, place[2]))
        elif deed and deed[3] in names[0] and deed[4] in names[0] and set((deed[6] or "").split()) <= set(clocks):
            names[1].append(deed[2])
            back = tuple(clocks.index(word) + 1 for word in (deed[6] or "").split())
            deeds.append((deed[1], names[0].index(deed[3]), names[0].index(deed[4]), plain_rules(clocks, deed[5]), back))
        else:
            return index
        if not all(are_fine(told) for told in (clocks, *names)) or len(clocks) > 4:
            return index
        if index and machine_fault(len(clocks), tuple(places), tuple(deeds)) is not None:
            return index
    return None if whole[-1] == "" and places else len(whole) - 1


def are_fine(names):
    return len(set(names)) == len(names) and all(re.fullmatch("[a-z]{1,8}", name) and name not in WORDS for name in names)


class Texts(Calls, unittest.TestCase):
    def assert_spot(self, spot, call, *arguments):
        """The call raises ParseError with the spot."""
        self.assert_kept(ParseError, "spot", spot, call, *arguments)


class MachineTextsTest(Texts):
    def test_constant(self):
        self.assertEqual(texts.MOST_TEXT, 20000)

    def test_text(self):
        self.assertEqual(text_of(GATE, NAMES), TEXT)
        free = Machine(0, ((), ()), (("own", 0, 1, (), ()),))
        self.assertEqual(text_of(free, ((), ("a", "b"), ("a",))), "clocks\nplace a\nplace b\nown a a b\n")
        self.assertEqual(text_of(Machine(0, ((),), ()), ((), ("zzzzzzzz",), ())), "clocks\nplace zzzzzzzz\n")
        every = Machine(
            2, (((1, 0, (0, 1)), (2, 0, (20, 0))),),
            (("foe", 0, 0, ((0, 1, (0, 1)), (0, 2, (0, 0)), (1, 0, (0, 0)), (2, 0, (20, 1))), (1, 2)), ("own", 0, 0, ((0, 2, (-20, 1)),), (2,))),
        )
        told = "clocks b a\nplace p b <= 0 a < 20\nfoe x p p b >= 0 a > 0 b < 0 a <= 20 back b a\nown y p p a >= 20 back a\n"
        names = (("b", "a"), ("p",), ("x", "y"))
        self.assertEqual(text_of(every, names), told)
        self.assertEqual(read_machine(told), (every, names))

    def test_read_back(self):
        seen = {}
        for random, machine, names in drawn_ones("texts", 200):
            text = text_of(machine, names)
            self.assertEqual(read_machine(text), (machine, names))
            self.assertIsNone(plain_fault(text))
            self.assertEqual(text[-1], "\n")
            self.assertEqual(len(text.split("\n")), 2 + len(machine.places) + len(machine.deeds))
            # Other things have other texts.
            self.assertEqual(seen.setdefault(text, (machine.places, machine.deeds, names)), (machine.places, machine.deeds, names))

    def test_what_can_be_read_is_its_text(self):
        # Each line bent, put in, left out, twice, moved; words and signs likewise.
        kinds = {True: 0, False: 0}
        spots = {}
        for random, machine, names in drawn_ones("bent texts", 150):
            text = text_of(machine, names)
            for _ in range(20):
                bent = self.bent(random, text)
                expected = plain_fault(bent)
                kinds[expected is None] += 1
                if expected is None:
                    self.assertEqual(text_of(*read_machine(bent)), bent)
                else:
                    spots[expected] = spots.get(expected, 0) + 1
                    self.assert_spot(expected, read_machine, bent)
        self.assertGreater(min(kinds.values()), 150)
        for spot in range(8):
            self.assertGreater(spots[spot], 10)

    def bent(self, random, text):
        """The text with a line, a word or a sign put in, left out, twice, or at another place."""
        if random.random() < 0.1:
            return text[:random.randrange(len(text))]
        parts = re.split(random.choice(("(\n)", "([ \n])", "()")), text)
        index, other = random.randrange(len(parts)), random.randrange(len(parts))
        kind = random.choice(("out", "twice", "moved", "word", "swap"))
        if kind == "out":
            del parts[index]
        elif kind == "twice":
            parts.insert(other, parts[index])
        elif kind == "moved":
            parts.insert(other, parts.pop(index))
        elif kind == "swap":
            parts[index], parts[other] = parts[other], parts[index]
        else:
            parts[index] = random.choice(WORDS + ("", " ", "a", "x", "21", "20", "0", "<", "<=", ">", ">=", "=", "-1", "+1", "01", "zz", "own a a a", "\n", "A"))
        return "".join(parts)

    def test_lines(self):
        lines = TEXT.split("\n")[:-1]
        for index, line, spot in (
            (0, "clocks x", 3), (0, "clocks x y x", 0), (0, "clocks x y z", None), (0, "clocks a b c d e", 0), (0, "clocks  x y", 0), (0, "clocks x y ", 0), (0, "Clocks x y", 0),
            (0, "clocks y x", None), (0, "clock x y", 0), (0, "", 0), (0, " clocks x y", 0), (0, "clocks x place", 0), (0, "clocks x yyyyyyyyy", 0), (0, "clocks x Y", 0),
            (1, "place wait", None), (1, "place wait x < 0", 1), (1, "place wait x <= 0", None), (1, "place wait x <= 21", 1), (1, "place wait x <= 20", None),
            (1, "place wait x <= 03", 1), (1, "place wait x <= +3", 1), (1, "place wait x <= -0", 1), (1, "place wait x >= 3", 1), (1, "place wait x <=3", 1), (1, "place wait x = 3", 1),
            (1, "place wait x <= 3 x <= 4", 1), (1, "place wait x <= 3 y < 4", None), (1, "place wait y <= 3 x < 4", 1), (1, "place wait z <= 3", 1), (1, "place wait x <= 3 y", 1),
            (1, "place wait x <=  3", 1), (1, "place wait x <= 3 ", 1), (1, "place", 1), (1, "place ", 1), (1, "place own x <= 3", 1), (1, "place w1 x <= 3", 1), (1, "place x x <= 3", 3),
            (1, "place done x <= 3", 2), (1, "place wait back x", 1), (1, "clocks x y", 1), (2, "place wait", 2), (2, "places done", 2), (2, "", 2), (2, "place done\nplace other", None),
            (3, "own go wait done", None), (3, "own go wait", 3), (3, "own go wait nowhere", 3), (3, "own go x done", 3), (3, "own let wait done", 3), (3, "own go wait done y > 1 x < 2 back", 3),
            (3, "own go wait done y > 1 x < 2 back y x", 3), (3, "own go wait done y > 1 x < 2 back x y", None), (3, "own go wait done back y", None), (3, "own go wait done back y y", 3),
            (3, "own go wait done back y x < 2", 3), (3, "own go wait done x < 2 y > 1", 3), (3, "own go wait done y > 1 y >= 1", 3), (3, "own go wait done x >= 0", None), (3, "own go wait done x < 0", None),
            (3, "own go wait done x > 20", None), (3, "own go wait done x > 21", 3), (3, "own go wait done x > 1 x <= 5 x < 6", 3), (3, "own ring wait done", 4), (3, "mine go wait done", 3),
            (3, "own go wait done back wait", 3), (3, "own  go wait done", 3), (3, "place other\nown go wait done", None), (3, "own go wait done\nplace other", 4), (4, "foe go wait wait", 4),
            (4, "foe ring wait wait\n", 5), (4, "foe ring wait wait\nfoe x wait wait\nown y wait wait", None), (4, "own wait wait wait", None), (4, "foe ring wait wait back back", 4),
        ):
            text = "".join(told + "\n" for told in lines[:index] + [line] + lines[index + 1:])
            self.assertEqual(plain_fault(text), spot, text)
            if spot is None:
                self.assertEqual(text_of(*read_machine(text)), text)
            else:
                self.assert_spot(spot, read_machine, text)

    def test_lacks(self):
        for text, spot in (
            ("", 0), ("\n", 0), ("clocks x", 0), ("clocks x\n", 1), ("clocks x\nplace a", 1), ("clocks x\nplace a\nplace b", 2), ("clocks\n\n", 1), ("clocks\nplace a\n\n", 2),
            ("clocks x\nplace a\nwhat", 2), ("clocks x\nwhat\nplace a", 1), ("clocks x\nown a a a\n", 1), ("what", 0), (" ", 0), ("clocks x\n ", 1),
        ):
            self.assert_spot(spot, read_machine, text)
        lines = TEXT.split("\n")[:-1]
        for many in range(len(lines)):
            ahead = "".join(line + "\n" for line in lines[:many])
            for cut in range(1, len(lines[many]) + 1):
                self.assert_spot(many, read_machine, ahead + lines[many][:cut])
            if many < 2:
                self.assert_spot(many, read_machine, ahead)
            else:
                self.assertEqual(text_of(*read_machine(ahead)), ahead)

    def test_as_many_as_there_can_be(self):
        names = ["".join(chr(97 + int(digit)) for digit in f"{index:08d}") for index in range(60)]
        machine = Machine(4, ((),) * 12, (("own", 11, 0, tuple((0, clock, (-20, 1)) for clock in range(1, 5)) + tuple((clock, 0, (20, 1)) for clock in range(1, 5)), (1, 2, 3, 4)),) * 40)
        its_names = (tuple(names[:4]), tuple(names[:12]), tuple(names[:40]))
        text = text_of(machine, its_names)
        self.assertEqual(read_machine(text), (machine, its_names))
        lines = text.split("\n")
        self.assert_spot(53, read_machine, text + lines[-2].replace(names[39], names[40]) + "\n")
        more = "\n".join(lines[:13] + ["place zz"] + lines[13:])
        self.assert_spot(13, read_machine, more)
        self.assert_spot(0, read_machine, "clocks a b c d e\nplace a\n")

    def test_length(self):
        self.assert_spot(2, read_machine, "clocks\nplace a\n" + " " * (20000 - 15))
        self.assert_refused(InvalidText, read_machine, "clocks\nplace a\n" + " " * (20001 - 15))
        self.assert_spot(0, read_machine, "~" * 20000)
        for value in NOT_TEXTS:
            self.assert_refused(InvalidText, read_machine, value)

    def test_names(self):
        for part, names in enumerate(NAMES):
            for index in range(len(names)):
                for name in ("", "abcdefghi", "Abc", "a1", "a b", "\u00e9", "a_", "-", None, 0, True, [], (), ("a",), names[1 - index], GATE) + WORDS:
                    self.assert_refused(InvalidName, text_of, GATE, self.renamed(part, index, name))
                for name in ("a", "abcdefgh", "zzzzzzzz", "clock", "places", "lets", NAMES[1 - part % 2][0], "x" if part else "wait"):
                    if name not in names:
                        told = self.renamed(part, index, name)
                        self.assertEqual(read_machine(text_of(GATE, told)), (GATE, told))
        for value in (
            None, True, 0, "abc", (), [], {}, [*NAMES], NAMES[:2], NAMES + ((),), (("x",),) + NAMES[1:], (("x", "y", "z"),) + NAMES[1:], ([*NAMES[0]],) + NAMES[1:], ("xy",) + NAMES[1:],
            NAMES[:2] + (("go",),), NAMES[:1] + (("wait", "done", "more"),) + NAMES[2:], (None,) * 3, ((), (), ()), nested(20), GATE, NAMES[::-1] + ((),),
        ):
            self.assert_refused(InvalidName, text_of, GATE, value)
            self.assert_refused(InvalidName, standing_text, GATE, value, None)
            self.assert_refused(InvalidName, read_standing, GATE, value, None)
            self.assert_refused(InvalidName, play_text, GATE, value, None)
            self.assert_refused(InvalidName, read_play, GATE, value, None)
        for value in NOT_MACHINES:
            self.assert_refused(InvalidMachine, text_of, value, NAMES)
            self.assert_refused(InvalidMachine, text_of, value, None)
            for call in (standing_text, read_standing, play_text, read_play):
                self.assert_refused(InvalidMachine, call, value, None, None)

    def renamed(self, part, index, name):
        names = [list(told) for told in NAMES]
        names[part][index] = name
        return tuple(tuple(told) for told in names)

    def test_what_is_not_true(self):
        # [18.4]: without its deeds' lines, or its last one, a text is that of another machine, or none.
        self.assertNotEqual(read_machine(TEXT.replace("own go", "foe go"))[0], GATE)
        self.assert_spot(1, read_machine, "clocks x\n")
        self.assertEqual(read_machine("clocks x\nplace a\n")[0], Machine(1, ((),), ()))


class StandingTextsTest(Texts):
    def test_text(self):
        for standing, text in (
            ((0, (4, (6, 8))), "wait 3/2 2"), ((1, (3, (0, 7))), "done 0 7/3"), ((0, (5, (0, 0))), "wait 0 0"), ((1, (6, (2, 3))), "done 1/3 1/2"),
            ((1, (GREATEST, (1, GREATEST))), f"done 1/{GREATEST} 1"), ((1, (1, (GREATEST, 0))), f"done {GREATEST} 0"),
        ):
            self.assertEqual(standing_text(GATE, NAMES, standing), text)
            place, (bottom, values) = standing
            divisor = gcd(bottom, *values)
            self.assertEqual(read_standing(GATE, NAMES, text), (place, (bottom // divisor, tuple(value // divisor for value in values))))
        free = Machine(0, ((), ()), ())
        self.assertEqual(standing_text(free, ((), ("a", "b"), ()), (1, (7, ()))), "b")
        self.assertEqual(read_standing(free, ((), ("a", "b"), ()), "b"), (1, (1, ())))

    def test_read_back(self):
        for random, machine, names in drawn_ones("standing texts", 200):
            standing = drawn_standing(random, machine)
            text = standing_text(machine, names, standing)
            expected = " ".join([names[1][standing[0]]] + [str(number) for number in shown_by(standing[1])[1:]])
            self.assertEqual(text, expected)
            self.assertEqual(read_standing(machine, names, text), (standing[0], point_showing(shown_by(standing[1])[1:])))

    def test_beyond_the_limits(self):
        for value in ("0", "1/2", "3", "301/100", "4", "299/100"):
            text = f"wait {value} 9"
            if is_let((3, 1), Fraction(value)):
                self.assertEqual(standing_text(GATE, NAMES, read_standing(GATE, NAMES, text)), text)
            else:
                self.assert_refused(InvalidText, read_standing, GATE, NAMES, text)

    def test_what_is_no_text(self):
        for text in (
            "", " ", "wait", "wait 0", "wait 0 0 0", "wait 0 0 ", " wait 0 0", "wait  0 0", "Wait 0 0", "go 0 0", "x 0 0", "0 0 0", "wait 0 0\n", "wait\n0 0", "wait 4/2 0", "wait 3/1 0",
            "wait 0/1 0", "wait 0/2 0", "wait 1/0 0", "wait -1 0", "wait +1 0", "wait 01 0", "wait 1/02 0", "wait 1/2/3 0", "wait 1/ 0", "wait /2 0", "wait 1.5 0", "wait 1_0 0", "wait x 0",
            "wait \u0663 0", "wait \u00b2 0", "wait 0,0", "done 0 " + "1" * 61, "done 0 1/" + "3" * 61, "done 0 " + "9" * 5000, "done 0 1/" + "7" * 300000, "wait 2/6 0", "wait 1 0\t", "wait 1\u00a00",
        ):
            self.assert_refused(InvalidText, read_standing, GATE, NAMES, text)
        for value in (None, True, 0, (), ("wait 0 0",), ["wait 0 0"], {}, nested(20), GATE):
            self.assert_refused(InvalidText, read_standing, GATE, NAMES, value)
        self.assertEqual(read_standing(GATE, NAMES, "done 0 " + "1" * 60), (1, (1, (0, int("1" * 60)))))
        self.assertEqual(read_standing(GATE, NAMES, "done 0 1/" + "3" * 60), (1, (int("3" * 60), (0, 1))))

    def test_wrong_standings(self):
        names = (("x", "y"), ("a", "b", "c"), ("d", "e", "f", "g"))
        self.assertEqual(standing_text(LAMP, names, (0, (1, (3, 4)))), "a 3 4")
        for value in NOT_STANDINGS:
            self.assert_refused(InvalidStanding, standing_text, LAMP, names, value)


class PlayTextsTest(Texts):
    def test_text(self):
        turns = ((((3, 2), 0), ("deed", (2, 2), 1)), (((1, 1), 0), ("let",)))
        self.assertEqual(play_text(GATE, NAMES, turns), "after 3/2 go but 1 ring\nafter 1 go let\n")
        self.assertEqual(read_play(GATE, NAMES, "after 3/2 go but 1 ring\nafter 1 go let\n"), ((((3, 2), 0), ("deed", (1, 1), 1)), (((1, 1), 0), ("let",))))
        self.assertEqual((play_text(GATE, NAMES, ()), read_play(GATE, NAMES, "")), ("", ()))
        # Nobody asks whether turns can be done.
        self.assertEqual(play_text(GATE, NAMES, ((((0, 7), 0), ("deed", (GREATEST, 1), 1)),)), f"after 0 go but {GREATEST} ring\n")

    def test_read_back(self):
        for random, machine, names in drawn_ones("play texts", 200):
            own, foe = ([deed for deed, told in enumerate(machine.deeds) if told[0] == owner] for owner in ("own", "foe"))
            turns = []
            for _ in range(random.randint(0, 6) if own else 0):
                offer = ((random.randint(0, 20), random.randint(1, 6)), random.choice(own))
                answer = ("deed", (random.randint(0, 9), random.randint(1, 6)), random.choice(foe)) if foe and random.random() < 0.5 else ("let",)
                turns.append((offer, answer))
            text = play_text(machine, names, tuple(turns))
            self.assertEqual(read_play(machine, names, text), tuple((self.lowest(offer), answer if answer == ("let",) else ("deed", *self.lowest(answer[1:]))) for offer, answer in turns))
            self.assertEqual(play_text(machine, names, read_play(machine, names, text)), text)

    def lowest(self, told):
        (top, bottom), deed = told
        return ((Fraction(top, bottom).numerator, Fraction(top, bottom).denominator), deed)

    def test_lines(self):
        fine = "after 1 go let\n"
        for line in (
            "", " ", "after 1 go", "after 1 go let ", " after 1 go let", "after  1 go let", "after 1 ring let", "after 1 go but 1 go", "after 1 go but 1", "after 1 go but ring",
            "after 1 go but 1 ring let", "after 2/2 go let", "after 1 go but 2/2 ring", "after 1 go but 01 ring", "after -1 go let", "after 1/0 go let", "after 1 wait let", "after 1 x let",
            "after 1 go Let", "after go 1 let", "after 1 let go", "before 1 go let", "after 1 go let let", "after 1 go and 1 ring", "after " + "1" * 61 + " go let", "after 1 go but 1/" + "3" * 61 + " ring", "place wait",
        ):
            for many in (0, 1, 3):
                self.assert_spot(many, read_play, GATE, NAMES, fine * many + line + "\n")
                self.assert_spot(many, read_play, GATE, NAMES, fine * many + line + "\n" + fine)
                if line:
                    self.assert_spot(many, read_play, GATE, NAMES, fine * many + line)
        for cut in range(1, len(fine)):
            self.assert_spot(2, read_play, GATE, NAMES, fine * 2 + fine[:cut])
        self.assertEqual(len(read_play(GATE, NAMES, fine * 2)), 2)

    def test_400_turns_and_more(self):
        turn = (((1, 1), 0), ("let",))
        text = play_text(GATE, NAMES, (turn,) * 400)
        self.assertEqual(read_play(GATE, NAMES, text), (turn,) * 400)
        self.assert_refused(InvalidOperation, play_text, GATE, NAMES, (turn,) * 401)
        self.assert_spot(400, read_play, GATE, NAMES, text + "after 1 go let\n")
        self.assert_spot(400, read_play, GATE, NAMES, text + "after 1 go let")
        self.assert_spot(399, read_play, GATE, NAMES, text[:-1])
        self.assert_refused(InvalidText, read_play, GATE, NAMES, text + " " * (20001 - len(text)))
        self.assert_spot(400, read_play, GATE, NAMES, text + " " * (20000 - len(text)))
        for value in NOT_TEXTS:
            self.assert_refused(InvalidText, read_play, GATE, NAMES, value)

    def test_what_are_no_turns(self):
        offer, foe = ((1, 1), 0), ("deed", (1, 1), 1)
        values = [None, True, 0, "", [], {}, [(offer, foe)], (None,), ((offer,),), ((offer, foe, 0),), ([offer, foe],), (offer, foe), nested(20), GATE, ((offer, foe), None)]
        for other in (None, (), (1, 1), ((1, 1),), ((1, 1), 1), ((1, 1), 2), ((1, 1), -1), ((1, 1), True), ((1, 1), False), ((1, 1), None), [(1, 1), 0], ((1, 1), 0, 0), ((TOO_GREAT, 1), 0)):
            values.append(((other, ("let",)),))
        values += [((((pause), 0), ("let",)),) for pause in NOT_PAUSES] + [((offer, ("deed", pause, 1)),) for pause in NOT_PAUSES]
        for other in (None, (), "let", ["let"], ("Let",), ("let", 0), ("deed",), ("deed", (1, 1)), ("deed", (1, 1), 0), ("deed", (1, 1), 2), ("deed", (1, 1), True), ("deed", (1, 1), 1, 1), ["deed", (1, 1), 1], ("but", (1, 1), 1)):
            values.append(((offer, other),))
        for value in values:
            self.assert_refused(InvalidOperation, play_text, GATE, NAMES, value)

    def test_a_text_does_not_tell_the_standings(self):
        # [18.4]
        race = Machine(1, ((), ()), (("own", 0, 1, (), ()),))
        turns = read_play(race, (("x",), ("a", "b"), ("go",)), "after 1 go let\n")
        self.assertNotEqual(played(race, at(0), (1,), turns)[0], played(race, at(1), (1,), turns)[0])


if __name__ == "__main__":
    unittest.main()
