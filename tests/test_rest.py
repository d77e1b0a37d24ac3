import random
import unittest

from forthback.beats import beat
from forthback.errors import Open
from forthback.far import counts, far
from forthback.lines import bare, full, is_standing, lacking, turned, turned_line, turned_widths
from forthback.rest import is_resting, rest, rest_counts, rests_when
from helpers import BILLION, GREAT_ROW, SHORT_LINES, TRILLION, Told
from helpers import all_standings, all_widths, moved_by_hand, run_by_hand, some_cases, some_number, some_width

ALL_FOUR = (rest, rests_when, rest_counts, is_resting)


def rest_by_hand(line, widths, standing):
    """The triple (standing, beats, counts), beats gone through one by one."""
    many = 0
    gone = (0,) * len(widths)
    held = standing
    while any(moved_by_hand(line, widths, held, "forth")):
        held, more = run_by_hand(line, held, [("forth", widths)])
        gone = tuple(one + other for one, other in zip(gone, more))
        many += 1
    return held, many, gone


def shut(widths):
    return (0,) + widths[1:-1] + (0,)


def shut_rows(seed, many, most_bins, most_room):
    for line, widths, standing in some_cases(seed, many, most_bins, most_room):
        if line[0] == "row":
            yield line, shut(widths), standing


def short_rows():
    for line in SHORT_LINES:
        if line[0] == "row":
            for widths in all_widths(line, (0, 1, None)):
                for standing in all_standings(line):
                    yield line, shut(widths), standing


class Rest(Told):
    def check(self, line, widths, standing):
        held, many, gone = rest_by_hand(line, widths, standing)
        self.told(rest(line, widths, standing), held)
        self.told(rests_when(line, widths, standing), many)
        self.told(rest_counts(line, widths, standing), gone)
        self.told(is_resting(line, widths, standing), many == 0)

    def test_ordinary(self):
        row, widths = ("row", (4, 6, 2)), (0, None, 1, 0)
        self.told(rest(row, widths, (3, 1, 0)), (0, 2, 2))
        self.told(rests_when(row, widths, (3, 1, 0)), 2)
        self.told(rest_counts(row, widths, (3, 1, 0)), (0, 3, 2, 0))
        self.no(is_resting(row, widths, (3, 1, 0)))
        self.yes(is_resting(row, widths, (0, 2, 2)))
        self.yes(is_resting(row, widths, (1, 6, 2)))

    def test_beside_beats(self):
        for line, widths, standing in short_rows():
            self.check(line, widths, standing)
        for line, widths, standing in shut_rows(601, 300, 24, 12):
            self.check(line, widths, standing)

    def test_rows_of_each_length(self):
        chance = random.Random(602)
        for bins in range(1, 25):
            for most in (1, 2, 9):
                rooms = tuple(some_number(chance, 1, most) for _ in range(bins))
                widths = shut(tuple(some_width(chance, 1, most) for _ in range(bins + 1)))
                self.check(("row", rooms), widths, tuple(some_number(chance, 0, room) for room in rooms))
                self.check(("row", rooms), shut((1,) * (bins + 1)), rooms[:1] + (0,) * (bins - 1))
                self.check(("row", rooms), shut((None,) * (bins + 1)), rooms[:bins // 2] + (0,) * (bins - bins // 2))

    def test_shut_gates_within(self):
        row = ("row", (3, 3, 3, 3))
        self.told(rest(row, (0, None, 0, None, 0), (2, 0, 3, 2)), (0, 2, 2, 3))
        self.told(rest_counts(row, (0, None, 0, None, 0), (2, 0, 3, 2)), (0, 2, 0, 1, 0))
        self.told(rests_when(row, (0, None, 0, None, 0), (2, 0, 3, 2)), 1)
        self.told(rest(row, (0,) * 5, (2, 0, 3, 2)), (2, 0, 3, 2))
        self.yes(is_resting(row, (0,) * 5, (2, 0, 3, 2)))
        for line, widths, standing in shut_rows(603, 100, 12, 12):
            closed = tuple(0 if gate % 3 == 0 else width for gate, width in enumerate(widths))
            self.check(line, shut(closed), standing)

    def test_one_bin(self):
        for held in range(4):
            self.check(("row", (3,)), (0, 0), (held,))
            self.told(rests_when(("row", (3,)), (0, 0), (held,)), 0)
            self.told(rest_counts(("row", (3,)), (0, 0), (held,)), (0, 0))

    def test_resting_already(self):
        for line, widths, standing in shut_rows(604, 100, 24, BILLION):
            for held in (bare(line), full(line), rest(line, widths, standing)):
                self.told(rest(line, widths, held), held)
                self.told(rests_when(line, widths, held), 0)
                self.told(rest_counts(line, widths, held), (0,) * len(widths))
                self.yes(is_resting(line, widths, held))

    def test_great_rooms_and_narrow_gates(self):
        two = ("row", (BILLION, BILLION)), (0, 1, 0), (BILLION, 0)
        self.told(rest(*two), (0, BILLION))
        self.told(rests_when(*two), BILLION)
        self.told(rest_counts(*two), (0, BILLION, 0))
        self.no(is_resting(*two))
        long = GREAT_ROW, (0,) + (1,) * 23 + (0,), (BILLION,) + (0,) * 23
        self.told(rest(*long), (0,) * 23 + (BILLION,))
        self.told(rests_when(*long), BILLION + 22)
        self.told(rest_counts(*long), (0,) + (BILLION,) * 23 + (0,))
        half = GREAT_ROW, (0,) + (1,) * 23 + (0,), (BILLION,) * 12 + (0,) * 12
        self.told(rest(*half), (0,) * 12 + (BILLION,) * 12)
        self.told(rest_counts(*half), tuple(BILLION * min(gate, 24 - gate) for gate in range(25)))
        # All go by the gate in the midst, one a beat; the last one stays ahead of it, as all further bins are full.
        self.told(rests_when(*half), 12 * BILLION)

    def test_great_rows_beside_far_beats(self):
        for line, widths, standing in shut_rows(605, 60, 24, BILLION):
            many = rests_when(line, widths, standing)
            held = rest(line, widths, standing)
            gone = rest_counts(line, widths, standing)
            self.yes(is_standing(line, held))
            self.told(far(line, widths, standing, "forth", many), held)
            self.told(counts(line, widths, standing, "forth", many), gone)
            self.told(far(line, widths, standing, "forth", TRILLION * 10), held)
            self.told(beat(line, widths, held, "forth"), held)
            self.told(is_resting(line, widths, standing), many == 0)
            if many > 0:
                self.assertNotEqual(counts(line, widths, standing, "forth", many - 1), gone)

    def test_holes_go_as_things_do(self):
        for line, widths, standing in shut_rows(606, 60, 12, BILLION):
            about = turned_line(line), turned_widths(line, widths), turned(line, lacking(line, standing))
            self.told(rests_when(*about), rests_when(line, widths, standing))
            self.told(rest_counts(*about), rest_counts(line, widths, standing)[::-1])


class Refused(Told):
    def test_of_a_ring(self):
        for ask in ALL_FOUR:
            for widths in ((0, 0), (0, None), (None, None), (1, 1)):
                self.refused(Open, {}, ask, ("ring", (3, 5)), widths, (1, 2))
            self.refused(Open, {}, ask, ["ring", [3, 5, 4]], [0, 0, 0], [0, 0, 0])

    def test_of_ends_that_are_not_shut(self):
        for ask in ALL_FOUR:
            for first, last in ((0, None), (None, 0), (0, 1), (1, 0), (None, None), (1, 1), (BILLION, 0), (0, BILLION)):
                self.refused(Open, {}, ask, ("row", (3, 5)), (first, 1, last), (1, 2))
                self.refused(Open, {}, ask, ["row", [3, 5]], [first, 0, last], [0, 0])
                self.refused(Open, {}, ask, ("row", (3,)), (first, last), (3,))
        self.assertTrue(issubclass(Open, RuntimeError))

    def test_gates_within_do_not_count(self):
        for width in (0, 1, None):
            for ask in ALL_FOUR:
                ask(("row", (3, 5)), (0, width, 0), (1, 2))


class HandedIn(Told):
    def test_all_four(self):
        for line, widths, standing in shut_rows(611, 40, 5, 5):
            for ask in ALL_FOUR:
                self.handed(ask, line=line, widths=widths, standing=standing)


if __name__ == "__main__":
    unittest.main()
