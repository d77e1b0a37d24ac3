import random
import unittest

from forthback.far import counts, far, far_turns, when
from forthback.lines import is_standing, lacking, turned, turned_line, turned_widths
from forthback.turns import back_turns, forgotten, so_often
from helpers import BILLION, GREAT_RING, GREAT_ROW, TRILLION, WAYS, Told
from helpers import gate_count, run_by_hand, short_cases, some_cases, some_turns, steads, turns_by_hand


def added(one, other):
    return tuple(first + second for first, second in zip(one, other))


class Counts(Told):
    def test_of_no_beats(self):
        for line, widths, standing in some_cases(201, 50, 8, 9):
            for way in WAYS:
                self.told(counts(line, widths, standing, way, 0), (0,) * gate_count(line))
                self.told(far(line, widths, standing, way, 0), standing)

    def test_of_one_beat(self):
        self.told(counts(("row", (4, 6, 2)), (None,) * 4, (3, 1, 2), "forth", 1), (1, 3, 0, 2))
        self.told(counts(("row", (4, 6, 2)), (None,) * 4, (3, 1, 2), "back", 1), (-3, -1, -2, 0))
        self.told(counts(("ring", (4, 6)), (None, None), (3, 2), "forth", 1), (1, 3))
        self.told(counts(("ring", (4, 6)), (None, None), (3, 2), "back", 1), (-3, -1))
        self.told(far(("ring", (4, 6)), (None, 1), (3, 2), "back", 1), (1, 4))

    def test_beside_beats(self):
        for line, widths, standing in some_cases(202, 200, 7, 12):
            for way in WAYS:
                for many in (1, 2, 3, 4, 7, 8, 21, 50):
                    held, gone = run_by_hand(line, standing, [(way, widths)] * many)
                    self.told(counts(line, widths, standing, way, many), gone)
                    self.told(far(line, widths, standing, way, many), held)

    def test_beside_beats_of_great_lines(self):
        for line, widths, standing in some_cases(203, 12, 24, BILLION):
            for way in WAYS:
                held, gone = run_by_hand(line, standing, [(way, widths)] * 300)
                self.told(counts(line, widths, standing, way, 300), gone)
                self.told(far(line, widths, standing, way, 300), held)

    def test_beside_beats_of_short_lines(self):
        for line, widths, standing in short_cases((0, 1, None)):
            for way in WAYS:
                self.told(counts(line, widths, standing, way, 5), run_by_hand(line, standing, [(way, widths)] * 5)[1])

    def test_a_great_many(self):
        self.told(counts(("row", (1,)), (None, None), (0,), "forth", TRILLION), (TRILLION // 2, TRILLION // 2))
        self.told(far(("row", (1,)), (None, None), (0,), "forth", TRILLION), (0,))
        self.told(far(("row", (1,)), (None, None), (0,), "forth", TRILLION - 1), (1,))
        self.told(counts(("row", (1,)), (None, None), (1,), "back", TRILLION), (-TRILLION // 2, -TRILLION // 2))
        self.told(counts(("row", (BILLION,)), (BILLION // 2,) * 2, (7,), "forth", TRILLION), (
            TRILLION * BILLION // 2, (TRILLION - 1) * BILLION // 2 + 7,
        ))
        self.told(counts(("ring", (2, 2, 2)), (None,) * 3, (1, 0, 0), "forth", 3 * 10 ** 11), (10 ** 11,) * 3)
        self.told(far(("ring", (2, 2, 2)), (None,) * 3, (1, 0, 0), "forth", 3 * 10 ** 11 + 1), (0, 1, 0))
        self.told(far(("ring", (2, 2, 2)), (None,) * 3, (1, 0, 0), "back", 3 * 10 ** 11 + 1), (0, 0, 1))

    def test_in_pieces(self):
        chance = random.Random(204)
        for line, widths, standing in some_cases(205, 60, 9, BILLION):
            for way in WAYS:
                first, second = chance.randint(0, TRILLION), chance.choice((0, 1, 17, TRILLION))
                midst = far(line, widths, standing, way, first)
                self.yes(is_standing(line, midst))
                self.told(far(line, widths, midst, way, second), far(line, widths, standing, way, first + second))
                gone = added(counts(line, widths, standing, way, first), counts(line, widths, midst, way, second))
                self.told(gone, counts(line, widths, standing, way, first + second))

    def test_great_lines(self):
        for line, widths, standing in some_cases(206, 12, 24, BILLION):
            for way in WAYS:
                gone = counts(line, widths, standing, way, TRILLION)
                sign = 1 if way == "forth" else -1
                self.yes(all(sign * many >= 0 for many in gone))
                self.told(counts(line, widths, far(line, widths, standing, way, TRILLION), way, 1), tuple(
                    after - before for after, before in zip(counts(line, widths, standing, way, TRILLION + 1), gone)
                ))

    def test_shut_gates(self):
        row = ("row", (BILLION, BILLION, BILLION))
        shut = (0, None, 3, 0)
        self.told(counts(row, shut, (BILLION, 0, 5), "forth", TRILLION), (0, BILLION, BILLION - 5, 0))
        self.told(far(row, shut, (BILLION, 0, 5), "forth", TRILLION), (0, 5, BILLION))
        self.told(far(row, shut, (5, 0, BILLION), "back", TRILLION), (BILLION, 5, 0))
        self.told(counts(row, (0,) * 4, (1, 2, 3), "back", TRILLION), (0,) * 4)
        self.told(far(("ring", (9, 9)), (0, 1), (4, 4), "forth", TRILLION), (0, 8))

    def test_holes_go_as_things_do(self):
        for line, widths, standing in some_cases(207, 40, 8, BILLION):
            about = turned_line(line), turned_widths(line, widths), turned(line, lacking(line, standing))
            for way in WAYS:
                wanted = turned_widths(line, counts(line, widths, standing, way, TRILLION))
                self.told(counts(*about, way, TRILLION), wanted)

    def test_told_numbers_of_any_size(self):
        line, widths, standing = ("row", (BILLION,)), (BILLION // 2,) * 2, (7,)
        many = counts(line, widths, standing, "forth", TRILLION)[0]
        self.told(counts(line, widths, standing, "forth", many)[0], many * BILLION // 2)
        self.told(counts(line, widths, standing, "back", many + 1)[1], -(many + 1) * BILLION // 2)

    def test_handed_in(self):
        for line, widths, standing in some_cases(208, 20, 4, 5):
            for way in WAYS:
                for many in (0, 3):
                    self.handed(counts, line=line, widths=widths, standing=standing, way=way, many=many)
                    self.handed(far, line=line, widths=widths, standing=standing, way=way, many=many)


class FarTurns(Told):
    def test_of_none(self):
        for line, widths, standing in some_cases(211, 50, 8, 9):
            self.told(far_turns(line, widths, standing, []), (standing, (0,) * gate_count(line)))
        self.told(far_turns(["row", [3]], [1, 1], [2], ()), ((2,), (0, 0)))

    def test_of_one(self):
        for line, widths, standing in some_cases(212, 50, 8, 9):
            for way in WAYS:
                for many in (1, 6, TRILLION):
                    wanted = far(line, widths, standing, way, many), counts(line, widths, standing, way, many)
                    self.told(far_turns(line, widths, standing, [(way, many)]), wanted)

    def test_beside_beats(self):
        chance = random.Random(213)
        for line, widths, standing in some_cases(214, 200, 6, 9):
            turns = some_turns(chance, chance.randint(0, 9), 12)
            self.told(far_turns(line, widths, standing, turns), turns_by_hand(line, widths, standing, turns))

    def test_one_behind_the_other(self):
        chance = random.Random(215)
        for line, widths, standing in some_cases(216, 20, 10, BILLION):
            turns = some_turns(chance, 40, TRILLION)
            held, gone = standing, (0,) * gate_count(line)
            for way, many in turns:
                gone = added(gone, counts(line, widths, held, way, many))
                held = far(line, widths, held, way, many)
            self.told(far_turns(line, widths, standing, turns), (held, gone))
            self.told(far_turns(line, widths, standing, forgotten(turns)), (held, gone))

    def test_there_back_and_there_again(self):
        for line, widths, standing in some_cases(217, 40, 10, BILLION):
            for way in WAYS:
                turns = [(way, TRILLION)]
                self.told(
                    far_turns(line, widths, standing, turns + back_turns(turns) + turns),
                    far_turns(line, widths, standing, turns),
                )

    def test_a_told_history(self):
        line, widths, standing = ("row", (2, 3)), (1, 1, 1), (1, 2)
        turns = so_often([("forth", 3), ("back", 1)], TRILLION)
        wanted = counts(line, widths, standing, "forth", 2 * TRILLION)
        self.told(far_turns(line, widths, standing, turns)[1][0], wanted[0])

    def test_each_stead(self):
        wanted = far_turns(("row", (2, 3)), (1, 1, 1), (1, 2), [("forth", 3), ("back", 1)])
        for turns in steads([("forth", 3), ("back", 1)]):
            self.told(far_turns(["row", (2, 3)], [1, 1, 1], [1, 2], turns), wanted)

    def test_handed_in(self):
        chance = random.Random(218)
        for line, widths, standing in some_cases(219, 20, 4, 5):
            turns = some_turns(chance, chance.randint(0, 4), 7)
            self.handed(far_turns, line=line, widths=widths, standing=standing, turns=turns)


class When(Told):
    def test_of_none_and_below(self):
        for line, widths, standing in some_cases(221, 50, 8, 9):
            for gate in range(gate_count(line)):
                for many in (0, -1, -TRILLION):
                    self.told(when(line, widths, standing, gate, many), 0)

    def test_ordinary(self):
        self.told(when(("row", (1,)), (None, None), (0,), 0, 1), 1)
        self.told(when(("row", (1,)), (None, None), (0,), 0, 2), 3)
        self.told(when(("row", (1,)), (None, None), (0,), 1, 2), 4)
        self.told(when(("row", (9, 9)), (2, 3, 4), (0, 0), 2, 5), 5)
        self.told(when(("row", (9, 9)), (2, 3, 4), (0, 0), 2, 4), 4)

    def test_never(self):
        self.told(when(("row", (5,)), (None, 0), (2,), 0, 3), 1)
        self.told(when(("row", (5,)), (None, 0), (2,), 0, 4), None)
        self.told(when(("row", (5,)), (1, 0), (2,), 0, 3), 3)
        self.told(when(("row", (5,)), (None, 0), (2,), 1, 1), None)
        self.told(when(("ring", (5, 5)), (None, None), (0, 0), 0, 1), None)
        self.told(when(("ring", (5, 5)), (None, None), (5, 5), 1, 1), None)
        self.told(when(("ring", (5, 5)), (None, 0), (2, 2), 0, 2), 1)
        self.told(when(("ring", (5, 5)), (None, 0), (2, 2), 0, 3), None)

    def test_beside_beats(self):
        for line, widths, standing in some_cases(222, 200, 5, 7):
            gone = [run_by_hand(line, standing, [("forth", widths)] * beats)[1] for beats in range(60)]
            for gate in range(gate_count(line)):
                for many in range(1, 12):
                    found = [beats for beats, one in enumerate(gone) if one[gate] >= many]
                    # In so short a line what hasn't come in so many beats never comes.
                    self.told(when(line, widths, standing, gate, many), found[0] if found else None)

    def test_a_great_many(self):
        self.told(when(("row", (1,)), (None, None), (0,), 0, TRILLION), 2 * TRILLION - 1)
        self.told(when(("row", (1,)), (None, None), (0,), 1, TRILLION), 2 * TRILLION)
        self.told(when(("row", (BILLION,)), (7, None), (0,), 0, 7 * TRILLION + 1), TRILLION + 1)
        self.told(when(("ring", (2,) * 24), (None,) * 24, (1,) + (0,) * 23, 0, TRILLION), 24 * TRILLION)
        self.told(when(("ring", (2,) * 24), (None,) * 24, (1,) + (0,) * 23, 1, TRILLION), 24 * TRILLION - 23)

    def test_a_great_row_comes_to_rest_late(self):
        # By a gate of width 1 a full bin takes as many beats as it holds.
        line, widths, standing = ("row", (BILLION, BILLION)), (0, 1, 0), (BILLION, 0)
        self.told(when(line, widths, standing, 1, BILLION), BILLION)
        self.told(when(line, widths, standing, 1, BILLION + 1), None)
        self.told(when(line, widths, standing, 0, 1), None)

    def test_the_least_such(self):
        chance = random.Random(223)
        for line, widths, standing in some_cases(224, 60, 12, BILLION):
            gate = chance.randrange(gate_count(line))
            many = chance.choice((1, chance.randint(1, 10 ** 6), chance.randint(1, TRILLION), TRILLION))
            told = when(line, widths, standing, gate, many)
            if told is None:
                # What hasn't come by then never does: all together move one thing at least in each beat, or none.
                self.assertLess(counts(line, widths, standing, "forth", 10 ** 14)[gate], many)
            else:
                self.assertGreaterEqual(counts(line, widths, standing, "forth", told)[gate], many)
                self.assertLess(counts(line, widths, standing, "forth", told - 1)[gate], many)

    def test_of_told_counts(self):
        for line, widths, standing in some_cases(225, 40, 8, BILLION, shut=False):
            gone = counts(line, widths, standing, "forth", TRILLION)
            for gate, many in enumerate(gone):
                if many > 0:
                    told = when(line, widths, standing, gate, many)
                    self.assertLessEqual(told, TRILLION)
                    self.told(counts(line, widths, standing, "forth", told)[gate], many)

    def test_handed_in(self):
        for line, widths, standing in some_cases(226, 20, 4, 5):
            for many in (0, 1, 5):
                self.handed(when, line=line, widths=widths, standing=standing, gate=1, many=many)


class Great(Told):
    def test_four_and_twenty_bins(self):
        for line in (GREAT_ROW, GREAT_RING):
            widths = (BILLION // 2,) * gate_count(line)
            standing = (BILLION // 2,) * 24
            gone = counts(line, widths, standing, "forth", TRILLION)
            self.told(gone, (TRILLION * BILLION // 2,) * gate_count(line))
            self.told(when(line, widths, standing, 5, TRILLION * BILLION // 2), TRILLION)
            self.told(when(line, widths, standing, 5, TRILLION * BILLION // 2 + 1), TRILLION + 1)


if __name__ == "__main__":
    unittest.main()
