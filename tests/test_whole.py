"""[0.13] to [0.16] over the whole program: what is told of each machine, what is not true, and one way through all stages."""

import unittest
from fractions import Fraction

from pauseplay.check.checker import opposite, takes
from pauseplay.game.foe import answer_by, outcome
from pauseplay.game.keep import kept_or_hunted
from pauseplay.game.own import offer_by
from pauseplay.game.plays import behind, is_offer, played
from pauseplay.game.time import least_time, time_paper
from pauseplay.game.won import rank, rounds, won_or_held
from pauseplay.house.desk import Desk, read_log
from pauseplay.lots.areas import area_has
from pauseplay.machine.classes import all_classes, class_of, how_many
from pauseplay.machine.machines import Machine
from pauseplay.machine.reach import fewest_moves
from pauseplay.machine.runs import waited
from pauseplay.side.products import goals_beside, joined_standing, side_by_side
from pauseplay.texts.texts import play_text, read_machine, read_play, read_standing, standing_text, text_of
from tests.drawn import drawn_standing, point_showing, seeded
from tests.plain import games_won
from tests.plain_games import drawn_answer
from tests.test_foe import drawn_offer
from tests.test_ways import at

RACE = Machine(
    1, (((1, 0, (3, 1)),), (), ()),
    (("own", 0, 1, ((0, 1, (-2, 1)),), ()), ("foe", 0, 2, ((0, 1, (-2, 0)),), ()), ("foe", 0, 0, ((1, 0, (1, 0)),), (1,))),
)


class StatementsTest(unittest.TestCase):
    def test_either_a_way_of_playing_or_a_field(self):
        # [0.13]: whoever plays by what is told comes to a goal, or is kept off it, whatever the other one does.
        random = seeded("either way")
        found = {"won": 0, "held": 0}
        for machine, goals, _, _, _ in games_won()[:90]:
            begin = drawn_standing(random, machine)
            kind, told = outcome(machine, goals, begin)
            standing, turns = begin, []
            while standing[0] not in goals and len(turns) < 12:
                if kind == "won":
                    offer = offer_by(machine, goals, told, standing)
                    answer = drawn_answer(random, machine, standing, offer)
                else:
                    offer = drawn_offer(random, machine, standing)
                    if offer is None:
                        break
                    answer = answer_by(machine, goals, told, standing, offer)
                turns.append((offer, answer))
                standing = behind(machine, standing, offer, answer)
            found[kind] += len(turns) > 0
            self.assertEqual(played(machine, begin, goals, tuple(turns))[1], "won" if kind == "won" else "open")
        self.assertGreater(min(found.values()), 10)

    def test_rounds_are_of_whole_classes(self):
        # [0.14]
        random = seeded("whole classes")
        for machine, goals, _, _, _ in games_won()[:40]:
            if how_many(machine.clocks, machine.most) < 500:
                fields = rounds(machine, goals)
                for told in random.sample(all_classes(machine.clocks, machine.most), min(20, how_many(machine.clocks, machine.most))):
                    points = [self.drawn_in(random, machine.most, told) for _ in range(4)]
                    for place in range(len(machine.places)):
                        for field in fields:
                            self.assertEqual(len({area_has(field[place], point) for point in points}), 1)

    def drawn_in(self, random, most, told):
        """Any point of the class."""
        wholes, _, groups = told
        rests = sorted(random.sample(range(1, 60), len(groups)))
        shown = [Fraction(whole) + (Fraction(random.randint(0, 90), 30) if whole > most else 0) for whole in wholes]
        for group, rest in zip(groups, rests):
            for clock in group:
                shown[clock - 1] += Fraction(rest, 60)
        point = point_showing(shown)
        self.assertEqual(class_of(point, most), told)
        return point

    def test_keeping_off_and_times(self):
        # [0.15]
        random = seeded("keep and time")
        for machine, goals, _, _, _ in games_won()[:60]:
            standing = drawn_standing(random, machine)
            kind, told = kept_or_hunted(machine, goals, standing)
            self.assertIs(takes((kind, machine, standing, goals), (kind, told)), True)
            if machine.clocks < 3:
                least = least_time(machine, goals, standing, 3)
                self.assertEqual(time_paper(machine, goals, standing, 3)[0], "too late" if least is None else "in time")
                self.assertEqual(least is not None and least[0] == (0, 1) and least[1] == 1, time_paper(machine, goals, standing, 0)[0] == "in time")


class NotTrueTest(unittest.TestCase):
    """[0.16]"""

    def test_what_can_be_come_to_if_the_foe_helps_need_not_be_won(self):
        self.assertEqual((fewest_moves(RACE, at(0), (2,)), won_or_held(RACE, (2,), at(0))[0]), (1, "held"))

    def test_a_later_standing_need_not_be_won(self):
        later = waited(RACE, at(3, 2), (1, 1))
        self.assertEqual((rank(RACE, (1,), at(3, 2)), rank(RACE, (1,), later)), (1, None))

    def test_a_standing_from_which_the_foe_has_nothing_to_do_need_not_be_won(self):
        still = Machine(1, ((), ()), ())
        self.assertEqual(won_or_held(still, (1,), at(0))[0], "held")

    def test_another_offer_with_the_deed_need_not_win(self):
        for pause in ((1, 2), (1, 1)):
            self.assertIs(is_offer(RACE, at(3, 2), (pause, 0)), True)
        self.assertEqual(rank(RACE, (1,), behind(RACE, at(3, 2), ((1, 2), 0), ("let",))), 0)
        self.assertIsNone(rank(RACE, (1,), behind(RACE, at(3, 2), ((1, 1), 0), ("deed", (3, 4), 1))))


class ThroughAllStagesTest(unittest.TestCase):
    def test_from_a_text_to_a_desk(self):
        text = "clocks x\nplace wait x <= 3\nplace home\nplace lost\nown go wait home x >= 2\nfoe ring wait lost x > 2\n"
        machine, names = read_machine(text)
        begin = read_standing(machine, names, "wait 1/2")
        kind, paper = outcome(machine, (1,), begin)
        claim = ("won", machine, begin, (1,))
        self.assertIs(takes(claim, (kind, paper)), True)
        self.assertIs(takes(opposite(claim), (kind, paper)), False)
        turn = (offer_by(machine, (1,), paper, begin), ("let",))
        told = play_text(machine, names, (turn,))
        self.assertEqual(told, "after 3/2 go let\n")
        passed, end = played(machine, begin, (1,), read_play(machine, names, told))
        self.assertEqual((end, standing_text(machine, names, passed[-1])[:4]), ("won", "home"))
        desk = Desk(machine)
        desk.watch("start", (1,), begin)
        desk.edit((("put", 1, ("foe", 0, 2, ((0, 1, (-2, 1)),), ())),))
        self.assertEqual(desk.changed("start"), (("won", 1), ("held", 0)))
        again = read_log(desk.log())
        again.undo()
        self.assertEqual(text_of(again.machine, names), text)
        self.assertEqual(desk.answer("start"), ("held", 0))
        # Beside a machine that never hinders it is as before.
        other = Machine(1, ((),), (("own", 0, 0, (), (1,)),))
        both, start = side_by_side(machine, other, ()), joined_standing(machine, other, begin, at(0))
        self.assertEqual(won_or_held(both, goals_beside(machine, other, (1,)), start), ("won", 1))


if __name__ == "__main__":
    unittest.main()
