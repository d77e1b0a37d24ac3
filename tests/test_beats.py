import itertools
import unittest

from forthback.beats import beat, beats, contrary, moved
from forthback.lines import is_standing, lacking, turned, turned_line, turned_widths
from helpers import BILLION, GREAT_RING, GREAT_ROW, WAYS, Told
from helpers import moved_by_hand, run_by_hand, short_cases, some_cases, steads


def great_standing(seed):
    return tuple((seed * (at + 3) ** 5) % (BILLION + 1) for at in range(24))


class Contrary(Told):
    def test_both(self):
        self.told(contrary("forth"), "back")
        self.told(contrary("back"), "forth")
        self.told(contrary(way="back"), "forth")


class Moved(Told):
    def test_of_one_bin(self):
        line = ("row", (5,))
        self.told(moved(line, (None, None), (2,), "forth"), (3, 2))
        self.told(moved(line, (None, None), (2,), "back"), (2, 3))
        self.told(moved(line, (1, 9), (2,), "forth"), (1, 2))
        self.told(moved(line, (9, 1), (2,), "back"), (2, 1))
        self.told(moved(line, (None, None), (0,), "forth"), (5, 0))
        self.told(moved(line, (None, None), (5,), "forth"), (0, 5))
        self.told(moved(line, (None, None), (0,), "back"), (0, 5))
        self.told(moved(line, (None, None), (5,), "back"), (5, 0))

    def test_of_rows(self):
        line = ("row", (4, 6, 2))
        self.told(moved(line, (None,) * 4, (3, 1, 2), "forth"), (1, 3, 0, 2))
        self.told(moved(line, (None,) * 4, (3, 1, 2), "back"), (3, 1, 2, 0))
        self.told(moved(line, (0, 2, 7, 1), (3, 1, 1), "forth"), (0, 2, 1, 1))
        self.told(moved(line, (5, 2, 0, None), (3, 1, 1), "back"), (3, 1, 0, 1))

    def test_of_rings(self):
        line = ("ring", (4, 6, 2))
        self.told(moved(line, (None,) * 3, (3, 1, 2), "forth"), (1, 3, 0))
        self.told(moved(line, (None,) * 3, (3, 1, 1), "back"), (1, 1, 1))
        self.told(moved(line, (None,) * 3, (3, 1, 0), "back"), (2, 1, 0))
        self.told(moved(line, (1, 2, None), (0, 5, 2), "forth"), (1, 0, 0))

    def test_of_rings_of_two(self):
        line = ("ring", (4, 6))
        self.told(moved(line, (None, None), (3, 2), "forth"), (1, 3))
        self.told(moved(line, (None, None), (3, 2), "back"), (3, 1))
        self.told(moved(line, (0, 2), (3, 2), "forth"), (0, 2))
        self.told(moved(line, (2, 0), (3, 2), "back"), (2, 0))

    def test_bare_and_full_bins_between_others(self):
        line = ("row", (3, 3, 3))
        self.told(moved(line, (None,) * 4, (2, 0, 2), "forth"), (1, 2, 0, 2))
        self.told(moved(line, (None,) * 4, (2, 3, 2), "forth"), (1, 0, 1, 2))
        self.told(moved(line, (None,) * 4, (2, 0, 2), "back"), (2, 0, 2, 1))
        self.told(moved(line, (None,) * 4, (2, 3, 2), "back"), (2, 1, 0, 1))

    def test_widths_of_nought_let_nothing_by(self):
        for line, widths, standing in some_cases(3, 100, 6, 9):
            for way in WAYS:
                self.told(moved(line, (0,) * len(widths), standing, way), (0,) * len(widths))
                self.told(beat(line, (0,) * len(widths), standing, way), standing)

    def test_great_numbers(self):
        wide = (None,) * 25
        self.told(moved(GREAT_ROW, wide, (BILLION, 0) * 12, "forth"), (0,) + (BILLION, 0) * 12)
        self.told(moved(GREAT_ROW, wide, (BILLION, 0) * 12, "back"), (BILLION, 0) * 12 + (BILLION,))
        self.told(moved(GREAT_RING, (BILLION,) * 24, (0, BILLION) * 12, "forth"), (BILLION, 0) * 12)
        self.told(moved(GREAT_RING, (BILLION - 1,) * 24, (0, BILLION) * 12, "back"), (0, BILLION - 1) * 12)

    def test_by_hand(self):
        for line, widths, standing in itertools.chain(short_cases(), some_cases(5, 400, 9, 12)):
            for way in WAYS:
                self.told(moved(line, widths, standing, way), moved_by_hand(line, widths, standing, way))

    def test_by_hand_of_great_ones(self):
        for line, widths, standing in some_cases(6, 60, 24, BILLION):
            for way in WAYS:
                self.told(moved(line, widths, standing, way), moved_by_hand(line, widths, standing, way))

    def test_holes_go_as_things_do(self):
        for line, widths, standing in some_cases(7, 300, 8, 9):
            about = turned_line(line), turned_widths(line, widths), turned(line, lacking(line, standing))
            for way in WAYS:
                # What is told for each gate is turned about as widths are.
                self.told(moved(*about, way), turned_widths(line, moved(line, widths, standing, way)))

    def test_handed_in(self):
        for line, widths, standing in some_cases(8, 30, 4, 5):
            for way in WAYS:
                self.handed(moved, line=line, widths=widths, standing=standing, way=way)


class Beat(Told):
    def test_ordinary(self):
        self.told(beat(("row", (5,)), (None, None), (2,), "forth"), (3,))
        self.told(beat(("row", (4, 6, 2)), (None,) * 4, (3, 1, 2), "forth"), (1, 4, 0))
        self.told(beat(("row", (4, 6, 2)), (None,) * 4, (3, 1, 2), "back"), (1, 2, 0))
        self.told(beat(("ring", (4, 6, 2)), (None,) * 3, (3, 1, 2), "forth"), (1, 4, 1))
        self.told(beat(("ring", (4, 6)), (None, None), (3, 2), "forth"), (1, 4))
        self.told(beat(("ring", (4, 6)), (None, None), (3, 2), "back"), (1, 4))
        self.told(beat(("ring", (4, 6)), (None, 1), (3, 2), "back"), (1, 4))

    def test_all_look_first(self):
        # A full row: each bin has room only behind the beat, so that nothing comes into it in this one.
        self.told(beat(("row", (2, 2, 2)), (None,) * 4, (2, 2, 2), "forth"), (2, 2, 0))
        self.told(beat(("row", (2, 2, 2)), (None,) * 4, (2, 2, 0), "forth"), (2, 0, 2))
        self.told(beat(("row", (2, 2, 2)), (None,) * 4, (2, 2, 2), "back"), (0, 2, 2))
        self.told(beat(("ring", (1, 1, 1)), (None,) * 3, (1, 1, 0), "forth"), (1, 0, 1))
        # Nothing goes through a bare bin in one beat.
        self.told(beat(("row", (2, 2, 2)), (0, None, None, None), (2, 0, 0), "forth"), (0, 2, 0))
        self.told(beat(("row", (2, 2, 2)), (None, None, None, 0), (0, 0, 2), "back"), (0, 2, 0))

    def test_a_full_and_a_bare_ring_stand_still(self):
        for rooms in ((3, 5), (1, 2, 3, 4)):
            for way in WAYS:
                for standing in (rooms, (0,) * len(rooms)):
                    self.told(beat(("ring", rooms), (None,) * len(rooms), standing, way), standing)

    def test_nothing_comes_up_or_is_lost(self):
        for line, widths, standing in some_cases(11, 300, 8, 9):
            for way in WAYS:
                told = beat(line, widths, standing, way)
                gone = moved(line, widths, standing, way)
                self.yes(is_standing(line, told))
                came = 0 if line[0] == "ring" else (gone[0] - gone[-1]) * (1 if way == "forth" else -1)
                self.told(sum(told), sum(standing) + came)

    def test_shut_ends(self):
        for line, widths, standing in some_cases(12, 200, 6, 9):
            if line[0] == "row":
                for way in WAYS:
                    self.told(sum(beat(line, (0,) + widths[1:-1] + (0,), standing, way)), sum(standing))

    def test_forth_back_forth_is_forth(self):
        for line, widths, standing in itertools.chain(short_cases(), some_cases(13, 300, 9, 9)):
            for way in WAYS:
                once = beat(line, widths, standing, way)
                again = beat(line, widths, beat(line, widths, once, contrary(way)), way)
                self.told(again, once)

    def test_handed_in(self):
        for line, widths, standing in some_cases(14, 30, 4, 5):
            for way in WAYS:
                self.handed(beat, line=line, widths=widths, standing=standing, way=way)


class Beats(Told):
    def test_of_none(self):
        for line, widths, standing in some_cases(21, 50, 8, 9):
            for way in WAYS:
                self.told(beats(line, widths, standing, way, 0), [standing])
        self.told(beats(["row", [2, 3]], [1, 1, 1], [1, 2], "forth", 0), [(1, 2)])

    def test_of_one(self):
        for line, widths, standing in some_cases(22, 100, 8, 9):
            for way in WAYS:
                self.told(beats(line, widths, standing, way, 1), [standing, beat(line, widths, standing, way)])

    def test_ordinary(self):
        self.told(
            beats(("row", (2, 2, 2)), (None,) * 4, (2, 2, 2), "forth", 4),
            [(2, 2, 2), (2, 2, 0), (2, 0, 2), (0, 2, 0), (2, 0, 2)],
        )
        self.told(
            beats(("ring", (1, 1, 1)), (None,) * 3, (1, 0, 0), "back", 3),
            [(1, 0, 0), (0, 0, 1), (0, 1, 0), (1, 0, 0)],
        )

    def test_by_hand(self):
        for line, widths, standing in some_cases(23, 100, 8, 9):
            for way in WAYS:
                told = beats(line, widths, standing, way, 25)
                wanted = [run_by_hand(line, standing, [(way, widths)] * many)[0] for many in range(26)]
                self.told(told, wanted)

    def test_of_four_hundred(self):
        for line in (GREAT_ROW, GREAT_RING):
            widths = tuple(None if gate % 3 else BILLION - gate for gate in range(25 - (line[0] == "ring")))
            for way in WAYS:
                told = beats(line, widths, great_standing(97), way, 400)
                self.told(len(told), 401)
                self.told(told[400], run_by_hand(line, great_standing(97), [(way, widths)] * 400)[0])
                self.told(told[137], run_by_hand(line, great_standing(97), [(way, widths)] * 137)[0])

    def test_handed_in(self):
        for line, widths, standing in some_cases(24, 30, 4, 5):
            for way in WAYS:
                self.handed(beats, line=line, widths=widths, standing=standing, way=way, many=5)

    def test_each_stead(self):
        wanted = beats(("ring", (2, 3)), (1, None), (2, 0), "forth", 3)
        for line in steads(("ring", (2, 3))):
            for widths in ((1, None), [1, None]):
                for standing in ((2, 0), [2, 0]):
                    self.told(beats(line, widths, standing, "forth", 3), wanted)


if __name__ == "__main__":
    unittest.main()
