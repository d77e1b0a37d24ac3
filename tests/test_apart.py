import itertools
import random
import unittest

from forthback.apart import apart, between, greater, is_further, lesser, with_more
from forthback.beats import beat
from forthback.errors import Full, NotAlike
from forthback.far import counts, far
from forthback.lines import bare, full, is_standing, lacking, turned, turned_line
from forthback.runs import led
from helpers import BILLION, GREAT_RING, GREAT_ROW, LONG, ROUND, SHORT_LINES, TRILLION, WAYS, Told
from helpers import all_standings, all_widths, beside, gate_count, some_cases, some_number, some_width

ASKED_OF_TWO = (between, apart, is_further, lesser, greater)


def reached(line, standing, gone):
    """What lies where, bin by bin, behind these counts."""
    held = list(standing)
    for gate, count in enumerate(gone):
        behind, ahead = beside(line, gate)
        if behind is not None:
            held[behind] -= count
        if ahead is not None:
            held[ahead] += count
    return tuple(held)


def like(chance, line, standing):
    """Another standing of the line; of a ring one that holds as many."""
    if line[0] == "row":
        return tuple(some_number(chance, 0, room) for room in line[1])
    held, left = [0] * len(line[1]), sum(standing)
    for place in chance.sample(range(len(held)), len(held)):
        held[place] = min(left, chance.choice((line[1][place], chance.randint(0, line[1][place]))))
        left -= held[place]
    for place, room in enumerate(line[1]):
        more = min(left, room - held[place])
        held[place] += more
        left -= more
    return tuple(held)


def pairs(seed, many, most_bins, most_room):
    chance = random.Random(seed)
    for line, widths, standing in some_cases(seed, many, most_bins, most_room):
        yield line, widths, standing, like(chance, line, standing)


def short_pairs():
    for line in SHORT_LINES:
        for one, other in itertools.product(all_standings(line), repeat=2):
            if line[0] == "row" or sum(one) == sum(other):
                yield line, one, other


class Between(Told):
    def test_ordinary(self):
        self.told(between(("row", (4, 6, 2)), (3, 1, 2), (1, 4, 1)), (0, 2, -1, 0))
        self.told(between(("row", (4,)), (3,), (1,)), (0, 2))
        self.told(between(("row", (4,)), (1,), (3,)), (0, -2))
        self.told(between(("ring", (4, 6, 2)), (3, 1, 2), (1, 4, 1)), (0, 2, -1))
        self.told(between(("ring", (4, 6)), (3, 1), (1, 3)), (0, 2))

    def test_one_and_itself(self):
        for line, widths, standing in some_cases(501, 100, 24, BILLION):
            self.told(between(line, standing, standing), (0,) * gate_count(line))
            self.told(apart(line, standing, standing), 0)
            self.yes(is_further(line, standing, standing))
            self.told(lesser(line, standing, standing), standing)
            self.told(greater(line, standing, standing), standing)

    def test_from_one_end_to_the_other(self):
        row = ("row", (BILLION,) * 24)
        first, last = (BILLION,) + (0,) * 23, (0,) * 23 + (BILLION,)
        self.told(between(row, first, last), (0,) + (BILLION,) * 23 + (0,))
        self.told(between(row, last, first), (0,) + (-BILLION,) * 23 + (0,))
        self.told(apart(row, first, last), BILLION)
        self.yes(is_further(row, first, last))
        self.no(is_further(row, last, first))
        ring = ("ring", row[1])
        self.told(between(ring, first, last), (0,) + (BILLION,) * 23)
        self.told(apart(ring, first, last), BILLION)
        self.told(between(row, bare(row), full(row)), tuple(-BILLION * gate for gate in range(25)))
        self.told(apart(row, bare(row), full(row)), 24 * BILLION)
        self.told(apart(row, full(row), bare(row)), 24 * BILLION)
        self.yes(is_further(row, full(row), bare(row)))
        self.no(is_further(row, bare(row), full(row)))

    def test_they_lead_from_one_to_the_other(self):
        for line, widths, one, other in pairs(502, 200, 24, BILLION):
            gone = between(line, one, other)
            self.told(gone[0], 0)
            self.told(len(gone), gate_count(line))
            self.told(reached(line, one, gone), other)
            self.told(between(line, other, one), tuple(-count for count in gone))

    def test_of_what_beats_lead_to(self):
        for line, widths, standing in some_cases(503, 100, 8, BILLION):
            for way in WAYS:
                gone = counts(line, widths, standing, way, 1000)
                wanted = tuple(count - gone[0] for count in gone)
                self.told(between(line, standing, far(line, widths, standing, way, 1000)), wanted)


class Apart(Told):
    def test_ordinary(self):
        self.told(apart(("row", (4, 6, 2)), (3, 1, 2), (1, 4, 1)), 3)
        self.told(apart(("ring", (4, 6, 2)), (3, 1, 2), (1, 4, 1)), 3)
        self.told(apart(("row", (4,)), (1,), (3,)), 2)
        self.told(apart(("ring", (4, 6)), (3, 1), (1, 3)), 2)

    def test_beside_between(self):
        for line, one, other in short_pairs():
            gone = between(line, one, other)
            self.told(apart(line, one, other), max(gone) - min(gone))
            self.told(apart(line, other, one), max(gone) - min(gone))

    def test_never_more_behind_any_beat(self):
        for line, one, other in short_pairs():
            for widths in all_widths(line, (0, 1, None)):
                for way in WAYS:
                    later = beat(line, widths, one, way), beat(line, widths, other, way)
                    self.assertLessEqual(apart(line, *later), apart(line, one, other))

    def test_never_more_behind_runs(self):
        chance = random.Random(511)
        for line, widths, one, other in pairs(512, 100, 12, 30):
            before = apart(line, one, other)
            for _ in range(30):
                way = chance.choice(WAYS)
                widths = tuple(some_width(chance, 0, 30) for _ in widths)
                one, other = beat(line, widths, one, way), beat(line, widths, other, way)
                after = apart(line, one, other)
                self.assertLessEqual(after, before)
                before = after


class IsFurther(Told):
    def test_ordinary(self):
        row, ring = ("row", (4, 6, 2)), ("ring", (4, 6, 2))
        for line in (row, ring):
            self.yes(is_further(line, (3, 1, 2), (2, 2, 2)))
            self.yes(is_further(line, (3, 1, 1), (3, 0, 2)))
            self.no(is_further(line, (3, 1, 1), (4, 0, 1)))
            self.no(is_further(line, (3, 1, 1), (4, 1, 0)))
            self.no(is_further(line, (2, 2, 1), (1, 4, 0)))
        # In a row what is missing at the end has gone on.
        self.yes(is_further(row, (3, 1, 1), (3, 1, 0)))
        self.no(is_further(row, (3, 1, 1), (3, 1, 2)))

    def test_beside_between(self):
        for line, one, other in short_pairs():
            self.told(is_further(line, one, other), all(count >= 0 for count in between(line, one, other)))

    def test_stays_so_in_a_row_with_shut_ends(self):
        chance = random.Random(521)
        found = 0
        for line, one, other in short_pairs():
            if line[0] == "ring" or not is_further(line, one, other):
                continue
            for _ in range(6):
                first, second = one, other
                for _ in range(5):
                    widths = (0,) + tuple(chance.choice((0, 1, 2, None)) for _ in line[1][1:]) + (0,)
                    way = chance.choice(WAYS)
                    first, second = beat(line, widths, first, way), beat(line, widths, second, way)
                    self.yes(is_further(line, first, second))
                    found += first != second
        self.assertGreater(found, 0)

    def test_stays_so_in_long_rows(self):
        chance = random.Random(522)
        for line, widths, one, other in pairs(523, 100, 24, 30):
            if line[0] == "row":
                further = greater(line, one, other)
                self.yes(is_further(line, one, further))
                for _ in range(30):
                    widths = (0,) + tuple(some_width(chance, 0, 30) for _ in line[1][1:]) + (0,)
                    way = chance.choice(WAYS)
                    one, further = beat(line, widths, one, way), beat(line, widths, further, way)
                    self.yes(is_further(line, one, further))


class LesserAndGreater(Told):
    def test_ordinary(self):
        row = ("row", (4, 6, 2))
        # Gate 1's count is 2, gate 2's is -1.
        self.told(lesser(row, (3, 1, 2), (1, 4, 1)), (3, 2, 1))
        self.told(greater(row, (3, 1, 2), (1, 4, 1)), (1, 3, 2))
        self.told(lesser(("ring", row[1]), (3, 1, 2), (1, 4, 1)), (3, 2, 1))
        self.told(greater(("ring", row[1]), (3, 1, 2), (1, 4, 1)), (1, 3, 2))

    def test_beside_between(self):
        for line, one, other in short_pairs():
            gone = between(line, one, other)
            self.told(lesser(line, one, other), reached(line, one, [min(0, count) for count in gone]))
            self.told(greater(line, one, other), reached(line, one, [max(0, count) for count in gone]))

    def test_standings_on_either_side(self):
        for line, widths, one, other in pairs(531, 200, 24, BILLION):
            low, high = lesser(line, one, other), greater(line, one, other)
            self.yes(is_standing(line, low))
            self.yes(is_standing(line, high))
            for held in (one, other):
                if line[0] == "row":
                    self.yes(is_further(line, low, held))
                    self.yes(is_further(line, held, high))
            if is_further(line, one, other):
                self.told((low, high), (one, other))

    def test_holes_go_as_things_do(self):
        for line, one, other in short_pairs():
            if line[0] == "row":
                about = turned_line(line)
                holes = [turned(line, lacking(line, held)) for held in (one, other)]
                gone = between(about, *holes)
                # By gate 0, which comes to be the last one here, all but these are told from.
                self.told(apart(about, *holes), apart(line, one, other))
                self.told(tuple(count - gone[-1] for count in gone[::-1]), between(line, one, other))


class WithMore(Told):
    def test_each_bin(self):
        self.told(with_more(LONG, (0, 1, 2, 0, 5), 0), (1, 1, 2, 0, 5))
        self.told(with_more(LONG, (0, 1, 2, 0, 5), 1), (0, 2, 2, 0, 5))
        self.told(with_more(LONG, (0, 1, 2, 0, 4), 4), (0, 1, 2, 0, 5))
        self.told(with_more(GREAT_ROW, (BILLION - 1,) * 24, 23), (BILLION - 1,) * 23 + (BILLION,))
        for line, widths, standing in some_cases(541, 100, 24, 9):
            for place, held in enumerate(standing):
                if held < line[1][place]:
                    wanted = standing[:place] + (held + 1,) + standing[place + 1:]
                    self.told(with_more(line, standing, place), wanted)
                else:
                    self.refused(Full, {"place": place}, with_more, line, standing, place)

    def test_full(self):
        for line in (LONG, ROUND, GREAT_ROW, GREAT_RING):
            for place in range(len(line[1])):
                self.refused(Full, {"place": place}, with_more, line, full(line), place)
        self.assertTrue(issubclass(Full, OverflowError))

    def test_one_more_changes_each_count_by_one_at_most(self):
        for line, widths, standing in some_cases(542, 150, 8, 9):
            if line[0] == "ring":
                continue
            for place in range(len(standing)):
                if standing[place] < line[1][place]:
                    more = with_more(line, standing, place)
                    for way in WAYS:
                        for many in (1, 2, 7, 50, TRILLION):
                            one = counts(line, widths, standing, way, many)
                            other = counts(line, widths, more, way, many)
                            for first, second in zip(one, other):
                                self.assertLessEqual(abs(first - second), 1)

    def test_one_more_in_runs_of_any_ways_and_widths(self):
        chance = random.Random(543)
        for line, widths, standing in some_cases(544, 150, 10, 9):
            if line[0] == "row" and standing != full(line):
                place = chance.choice([at for at, held in enumerate(standing) if held < line[1][at]])
                run = [
                    (chance.choice(WAYS), tuple(some_width(chance, 0, 9) for _ in widths)) for _ in range(40)
                ]
                for many in range(0, 41, 5):
                    one = led(line, standing, run[:many])[1]
                    other = led(line, with_more(line, standing, place), run[:many])[1]
                    for first, second in zip(one, other):
                        self.assertLessEqual(abs(first - second), 1)


class Refused(Told):
    def test_not_alike(self):
        ring = ("ring", (4, 6, 2))
        for ask in ASKED_OF_TWO:
            self.refused(NotAlike, {}, ask, ring, (3, 1, 2), (3, 1, 1))
            self.refused(NotAlike, {}, ask, ring, (0, 0, 0), (0, 0, 1))
            self.refused(NotAlike, {}, ask, ["ring", [4, 6]], [0, 0], [4, 6])
            self.refused(NotAlike, {}, ask, GREAT_RING, bare(GREAT_RING), full(GREAT_RING))
            # In a row they are told, whatever they hold.
            ask(("row", (4, 6, 2)), (3, 1, 2), (3, 1, 1))
        self.assertTrue(issubclass(NotAlike, ValueError))

    def test_of_all_short_rings(self):
        for line in SHORT_LINES:
            for one, other in itertools.product(all_standings(line), repeat=2):
                if line[0] == "ring" and sum(one) != sum(other):
                    for ask in ASKED_OF_TWO:
                        self.refused(NotAlike, {}, ask, line, one, other)

    def test_a_refusal_changes_nothing(self):
        line, one, other = ["ring", [4, 6]], [0, 1], [4, 6]
        self.refused(NotAlike, {}, between, line, one, other)
        self.refused(Full, {"place": 1}, with_more, line, other, 1)
        self.told((line, one, other), (["ring", [4, 6]], [0, 1], [4, 6]))


class HandedIn(Told):
    def test_of_two(self):
        for line, widths, one, other in pairs(551, 30, 5, 5):
            for ask in ASKED_OF_TWO:
                self.handed(ask, line=line, one=one, other=other)

    def test_with_more(self):
        for line, widths, standing in some_cases(552, 30, 5, 5):
            if standing[0] < line[1][0]:
                self.handed(with_more, line=line, standing=standing, place=0)


if __name__ == "__main__":
    unittest.main()
