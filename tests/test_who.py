import random
import unittest

from forthback.errors import NoRow, TooMany
from forthback.far import counts
from forthback.limits import MOST_LANE
from forthback.lines import bare, full
from forthback.who import goes_by, lane, where, who
from helpers import BILLION, GREAT_RING, GREAT_ROW, LONG, TRILLION, WAYS, Told
from helpers import gate_count, moved_by_hand, some_cases


class LaneByHand:
    """A lane gone through beat by beat, thing by thing; in each bin the foremost one comes first."""

    def __init__(self, line, widths, standing):
        self.line = line
        self.widths = widths
        self.bins = [[] for _ in standing]
        number = 0
        for place in reversed(range(len(standing))):
            for _ in range(standing[place]):
                self.bins[place].append(number)
                number += 1
        # The nearest ones in both wells: what comes out of them next.
        self.behind = number
        self.ahead = -1

    def beat(self, way):
        standing = tuple(len(held) for held in self.bins)
        gone = moved_by_hand(self.line, self.widths, standing, way)
        handed = [self.given(gate, many, way) for gate, many in enumerate(gone)]
        for gate, things in enumerate(handed):
            self.taken(gate, things, way)

    def given(self, gate, many, way):
        """The foremost ones of a bin go forth, its hindmost ones back, and so of wells."""
        if way == "forth" and gate == 0:
            self.behind += many
            return list(range(self.behind - many, self.behind))
        if way == "back" and gate == len(self.bins):
            self.ahead -= many
            return list(range(self.ahead + 1, self.ahead + many + 1))
        place = gate - 1 if way == "forth" else gate
        at = many if way == "forth" else len(self.bins[place]) - many
        first, last = self.bins[place][:at], self.bins[place][at:]
        self.bins[place] = last if way == "forth" else first
        return first if way == "forth" else last

    def taken(self, gate, things, way):
        if way == "forth" and gate == len(self.bins):
            assert things == list(range(self.ahead + 1, self.ahead + len(things) + 1))
            self.ahead += len(things)
        elif way == "back" and gate == 0:
            assert things == list(range(self.behind - len(things), self.behind))
            self.behind -= len(things)
        elif way == "forth":
            self.bins[gate] = self.bins[gate] + things
        else:
            self.bins[gate - 1] = things + self.bins[gate - 1]

    def where(self, number):
        for place, held in enumerate(self.bins):
            if number in held:
                return place
        assert number <= self.ahead or number >= self.behind
        return len(self.bins) if number <= self.ahead else -1


def rows(seed, many, most_bins, most_room, shut=True):
    for line, widths, standing in some_cases(seed, many, most_bins, most_room, shut):
        if line[0] == "row":
            yield line, widths, standing


class Lane(Told):
    def test_ordinary(self):
        self.told(lane(("row", (4, 6, 2)), (3, 1, 2)), [[3, 4, 5], [2], [0, 1]])
        self.told(lane(("row", (4,)), (3,)), [[0, 1, 2]])
        self.told(lane(("row", (4, 6, 2)), (1, 0, 2)), [[2], [], [0, 1]])
        self.told(lane(("row", (4, 6, 2)), (0, 1, 0)), [[], [0], []])

    def test_bare(self):
        self.told(lane(("row", (4,)), (0,)), [[]])
        self.told(lane(GREAT_ROW, bare(GREAT_ROW)), [[] for _ in range(24)])

    def test_beside_hand(self):
        for line, widths, standing in rows(701, 100, 24, 9):
            if sum(standing) <= MOST_LANE:
                self.told(lane(line, standing), LaneByHand(line, widths, standing).bins)

    def test_four_hundred(self):
        self.told(MOST_LANE, 400)
        self.told(lane(("row", (400,)), (400,)), [list(range(400))])
        self.told(lane(("row", (500, 400)), (150, 250)), [list(range(250, 400)), list(range(250))])

    def test_too_many(self):
        self.refused(TooMany, {"many": 401}, lane, ("row", (401,)), (401,))
        self.refused(TooMany, {"many": 401}, lane, ["row", [400, 400]], [1, 400])
        self.refused(TooMany, {"many": 24 * BILLION}, lane, GREAT_ROW, full(GREAT_ROW))
        self.assertTrue(issubclass(TooMany, OverflowError))

    def test_handed_in(self):
        for line, widths, standing in rows(702, 20, 5, 5):
            self.handed(lane, line=line, standing=standing)


class Where(Told):
    def test_of_no_beats(self):
        row = ("row", (4, 6, 2))
        for number, place in ((-TRILLION, 3), (-1, 3), (0, 2), (1, 2), (2, 1), (3, 0), (5, 0), (6, -1), (TRILLION, -1)):
            for way in WAYS:
                self.told(where(row, (None,) * 4, (3, 1, 2), number, way, 0), place)

    def test_of_none_that_lies_anywhere(self):
        row = ("row", (4, 6, 2))
        self.told(where(row, (None,) * 4, (0, 0, 0), 0, "forth", 0), -1)
        self.told(where(row, (None,) * 4, (0, 0, 0), 0, "forth", 1), 0)
        self.told(where(row, (None,) * 4, (0, 0, 0), 0, "forth", 3), 2)
        self.told(where(row, (None,) * 4, (0, 0, 0), 0, "forth", 4), 3)
        self.told(where(row, (None,) * 4, (0, 0, 0), -1, "back", 1), 2)
        self.told(where(row, (None,) * 4, (0, 0, 0), 0, "back", 1), -1)

    def test_beside_hand(self):
        for line, widths, standing in rows(711, 60, 5, 4):
            for way in WAYS:
                by_hand = LaneByHand(line, widths, standing)
                for many in range(7):
                    for number in range(-8, sum(standing) + 8):
                        self.told(where(line, widths, standing, number, way, many), by_hand.where(number))
                    by_hand.beat(way)

    def test_a_great_many(self):
        # Each thing waits a beat in each bin, and each bin takes one every second beat.
        row = ("row", (1, 1, 1))
        self.told(where(row, (None,) * 4, (0, 0, 0), TRILLION // 2, "forth", TRILLION), -1)
        self.told(where(row, (None,) * 4, (0, 0, 0), TRILLION // 2 - 1, "forth", TRILLION), 1)
        self.told(where(row, (None,) * 4, (0, 0, 0), TRILLION // 2 - 2, "forth", TRILLION), 3)
        self.told(where(row, (None,) * 4, (0, 0, 0), -TRILLION // 2, "back", TRILLION), 1)
        self.told(where(GREAT_ROW, (None,) * 25, bare(GREAT_ROW), TRILLION, "forth", TRILLION), 24)
        self.told(where(GREAT_ROW, (1,) * 25, bare(GREAT_ROW), TRILLION - 1, "forth", TRILLION), 0)
        self.told(where(GREAT_ROW, (1,) * 25, bare(GREAT_ROW), TRILLION - 24, "forth", TRILLION), 23)
        self.told(where(GREAT_ROW, (1,) * 25, bare(GREAT_ROW), TRILLION - 25, "forth", TRILLION), 24)
        self.told(where(GREAT_ROW, (1,) * 25, bare(GREAT_ROW), TRILLION, "forth", TRILLION), -1)

    def test_nobody_passes_anybody(self):
        for line, widths, standing in rows(712, 30, 6, BILLION):
            for way in WAYS:
                for many in (1, 1000, TRILLION):
                    gone = counts(line, widths, standing, way, many)
                    near = sorted([0, -1, sum(standing)] + list(gone) + [count + sum(standing) for count in gone])
                    places = [where(line, widths, standing, number, way, many) for number in near]
                    self.assertEqual(places, sorted(places, reverse=True))

    def test_handed_in(self):
        for line, widths, standing in rows(713, 20, 5, 5):
            for way in WAYS:
                self.handed(where, line=line, widths=widths, standing=standing, number=2, way=way, many=3)


class Who(Told):
    def test_of_no_beats(self):
        row = ("row", (4, 6, 2))
        for way in WAYS:
            self.told(who(row, (None,) * 4, (3, 1, 2), 0, way, 0), (3, 5))
            self.told(who(row, (None,) * 4, (3, 1, 2), 1, way, 0), (2, 2))
            self.told(who(row, (None,) * 4, (3, 1, 2), 2, way, 0), (0, 1))
            self.told(who(row, (None,) * 4, (3, 0, 2), 1, way, 0), None)
            self.told(who(row, (None,) * 4, (0, 0, 0), 1, way, 0), None)

    def test_beside_hand(self):
        for line, widths, standing in rows(721, 80, 8, 7):
            for way in WAYS:
                by_hand = LaneByHand(line, widths, standing)
                for many in range(9):
                    for place, held in enumerate(by_hand.bins):
                        wanted = (held[0], held[-1]) if held else None
                        self.told(who(line, widths, standing, place, way, many), wanted)
                    by_hand.beat(way)

    def test_beside_where(self):
        for line, widths, standing in rows(722, 14, 10, BILLION):
            for way in WAYS:
                for place in range(len(standing)):
                    told = who(line, widths, standing, place, way, TRILLION)
                    if told is not None:
                        first, last = told
                        self.assertLessEqual(first, last)
                        for number in (first, last, (first + last) // 2):
                            self.told(where(line, widths, standing, number, way, TRILLION), place)
                        self.assertGreater(where(line, widths, standing, first - 1, way, TRILLION), place)
                        self.assertLess(where(line, widths, standing, last + 1, way, TRILLION), place)

    def test_a_great_many(self):
        self.told(who(("row", (1, 1, 1)), (None,) * 4, (0, 0, 0), 1, "forth", TRILLION), (TRILLION // 2 - 1,) * 2)
        self.told(who(("row", (1, 1, 1)), (None,) * 4, (0, 0, 0), 0, "forth", TRILLION), None)
        self.told(who(GREAT_ROW, (BILLION // 2,) * 25, (BILLION // 2,) * 24, 0, "back", TRILLION), (
            (23 - TRILLION) * (BILLION // 2), (24 - TRILLION) * (BILLION // 2) - 1,
        ))

    def test_handed_in(self):
        for line, widths, standing in rows(723, 20, 5, 5):
            for way in WAYS:
                self.handed(who, line=line, widths=widths, standing=standing, place=0, way=way, many=3)


class GoesBy(Told):
    def test_where_it_lies_ahead_at_first(self):
        row, standing = ("row", (4, 6, 2)), (3, 1, 2)
        for number, ahead_of in ((5, 0), (3, 0), (2, 1), (1, 2), (0, 2), (-1, 3), (-TRILLION, 3)):
            for gate in range(4):
                told = goes_by(row, (None,) * 4, standing, number, gate)
                self.told(told == 0, gate <= ahead_of)
                if gate <= ahead_of:
                    self.told(told, 0)
        self.told(goes_by(row, (0,) * 4, standing, 5, 0), 0)
        self.told(goes_by(row, (0,) * 4, standing, 6, 0), None)

    def test_ordinary(self):
        row = ("row", (4, 6, 2))
        for gate in range(4):
            self.told(goes_by(row, (None,) * 4, (0, 0, 0), 0, gate), gate + 1)
        self.told(goes_by(row, (None, 0, None, None), (2, 1, 2), 2, 2), 2)
        self.told(goes_by(row, (None, 0, None, None), (2, 1, 2), 2, 3), 3)
        self.told(goes_by(row, (None, 0, None, None), (2, 1, 2), 3, 1), None)
        self.told(goes_by(row, (None, 0, None, None), (2, 1, 2), 3, 3), None)
        self.told(goes_by(row, (None, 0, None, None), (2, 1, 2), 5, 0), 1)
        self.told(goes_by(row, (None, 0, None, None), (2, 1, 2), 7, 0), None)

    def test_beside_hand(self):
        for line, widths, standing in rows(731, 60, 5, 4):
            numbers = range(-2, sum(standing) + 4)
            by_hand = LaneByHand(line, widths, standing)
            found = {}
            # In so short a row what hasn't gone by in so many beats never does.
            for many in range(80):
                for number in numbers:
                    for gate in range(by_hand.where(number) + 1):
                        found.setdefault((number, gate), many)
                by_hand.beat("forth")
            for number in numbers:
                for gate in range(gate_count(line)):
                    self.told(goes_by(line, widths, standing, number, gate), found.get((number, gate)))

    def test_beside_where(self):
        chance = random.Random(732)
        for line, widths, standing in rows(733, 60, 24, BILLION):
            number = chance.choice((0, sum(standing), chance.randint(-BILLION, TRILLION), TRILLION))
            gate = chance.randrange(gate_count(line))
            told = goes_by(line, widths, standing, number, gate)
            if told is None:
                self.assertLess(where(line, widths, standing, number, "forth", 10 ** 15), gate)
            else:
                self.assertGreaterEqual(where(line, widths, standing, number, "forth", told), gate)
                if told > 0:
                    self.assertLess(where(line, widths, standing, number, "forth", told - 1), gate)

    def test_a_great_many(self):
        self.told(goes_by(("row", (1, 1, 1)), (None,) * 4, (0, 0, 0), TRILLION, 0), 2 * TRILLION + 1)
        self.told(goes_by(("row", (1, 1, 1)), (None,) * 4, (0, 0, 0), TRILLION, 3), 2 * TRILLION + 4)
        self.told(goes_by(GREAT_ROW, (1,) * 25, bare(GREAT_ROW), TRILLION, 24), TRILLION + 25)
        self.told(goes_by(GREAT_ROW, (1,) * 24 + (0,), bare(GREAT_ROW), TRILLION, 0), None)

    def test_handed_in(self):
        for line, widths, standing in rows(734, 20, 5, 5):
            for number in (0, 3):
                self.handed(goes_by, line=line, widths=widths, standing=standing, number=number, gate=1)


class Refused(Told):
    def test_of_a_ring(self):
        ring = ("ring", (3, 5))
        self.refused(NoRow, {}, lane, ring, (1, 2))
        self.refused(NoRow, {}, where, ring, (None, 1), (1, 2), 0, "forth", 1)
        self.refused(NoRow, {}, who, ["ring", [3, 5]], [None, 1], [1, 2], 0, "back", 0)
        self.refused(NoRow, {}, goes_by, ring, (None, 1), (1, 2), 0, 0)
        self.assertTrue(issubclass(NoRow, RuntimeError))

    def test_ahead_of_all(self):
        self.refused(NoRow, {}, lane, GREAT_RING, full(GREAT_RING))
        self.refused(NoRow, {}, where, ("ring", (3, 5)), (0, 0), (0, 0), -TRILLION, "back", 0)
        self.refused(NoRow, {}, who, ("ring", (3, 5)), (None, 1), (1, 2), 99, "back", 0)
        self.refused(NoRow, {}, goes_by, ("ring", (3, 5)), (None, 1), (1, 2), -5, 99)

    def test_a_refusal_changes_nothing(self):
        line, standing = ["row", [300, 300]], [300, 300]
        self.refused(TooMany, {"many": 600}, lane, line, standing)
        self.told((line, standing), (["row", [300, 300]], [300, 300]))

    def test_rows_alike(self):
        self.told(lane(LONG, (1, 1, 1, 1, 1)), [[4], [3], [2], [1], [0]])


if __name__ == "__main__":
    unittest.main()
