import copy
import random
import unittest

from forthback.lines import is_standing, lacking, turned, turned_line, turned_widths
from forthback.runs import led, taken_back
from helpers import BILLION, GREAT_RING, GREAT_ROW, WAYS, Told
from helpers import gate_count, run_by_hand, some_cases, some_width, steads


def some_run(chance, line, many, most, ways):
    made = []
    for _ in range(many):
        widths = tuple(some_width(chance, 0, most) for _ in range(gate_count(line)))
        made.append((chance.choice(ways), widths))
    return made


def some_runs(seed, cases, ways=WAYS, most_bins=7, most_room=9, most_beats=14):
    chance = random.Random(seed)
    for line, widths, standing in some_cases(seed, cases, most_bins, most_room):
        yield line, standing, some_run(chance, line, chance.randint(0, most_beats), most_room, ways)


def added(*counts):
    return tuple(sum(parts) for parts in zip(*counts))


class Led(Told):
    def test_of_none(self):
        for line, widths, standing in some_cases(31, 50, 8, 9):
            self.told(led(line, standing, []), (standing, (0,) * gate_count(line)))
        self.told(led(["row", [3]], [2], ()), ((2,), (0, 0)))

    def test_of_one(self):
        line = ("row", (4, 6, 2))
        self.told(led(line, (3, 1, 2), [("forth", (None,) * 4)]), ((1, 4, 0), (1, 3, 0, 2)))
        self.told(led(line, (3, 1, 2), [("back", (None,) * 4)]), ((1, 2, 0), (-3, -1, -2, 0)))
        self.told(led(("ring", (4, 6)), (3, 2), [("back", (2, None))]), ((2, 3), (-2, -1)))

    def test_ordinary(self):
        line = ("row", (2, 3))
        run = [("forth", (1, 1, 1)), ("forth", (None, None, 0)), ("back", (0, 2, None)), ("forth", (2, 0, 1))]
        # (1, 1) by (1, 1, 1) to (1, 1); by (1, 1, 0) to (1, 2); back by (0, 1, 1) to (2, 2); by (0, 0, 1) to (2, 1).
        self.told(led(line, (1, 1), run), ((2, 1), (2, 1, 1)))

    def test_counts_are_forth_less_back(self):
        line = ("row", (5,))
        wide = (None, None)
        self.told(led(line, (2,), [("forth", wide), ("back", wide)]), ((2,), (3 - 3, 2 - 2)))
        self.told(led(line, (2,), [("forth", (1, 0)), ("back", (2, 1))]), ((2,), (-1, -1)))
        self.told(led(line, (2,), [("forth", wide), ("back", (1, 0)), ("forth", (4, 4))]), ((3,), (3 - 1 + 3, 2 + 2)))

    def test_each_by_its_own_widths(self):
        line = ("ring", (2, 2, 2))
        for at in range(3):
            run = [("forth", tuple(1 if gate == one else 0 for gate in range(3))) for one in (1, 2, 0)][: at + 1]
            held = [(0, 1, 0), (0, 0, 1), (1, 0, 0)][at]
            self.told(led(line, (1, 0, 0), run), (held, [(0, 1, 0), (0, 1, 1), (1, 1, 1)][at]))

    def test_by_hand(self):
        for line, standing, run in some_runs(32, 300):
            self.told(led(line, standing, run), run_by_hand(line, standing, run))
            self.yes(is_standing(line, led(line, standing, run)[0]))

    def test_of_sixty(self):
        chance = random.Random(33)
        for line in (GREAT_ROW, GREAT_RING):
            for ways in (("forth",), ("back",), WAYS):
                standing = tuple(chance.randint(0, BILLION) for _ in range(24))
                run = some_run(chance, line, 60, BILLION, ways)
                self.told(led(line, standing, run), run_by_hand(line, standing, run))

    def test_what_was_told_may_be_handed_in(self):
        for line, standing, run in some_runs(34, 50):
            held, counts = led(line, standing, run)
            self.told(led(line, held, taken_back(run)), run_by_hand(line, held, taken_back(run)))

    def test_handed_in(self):
        for line, standing, run in some_runs(35, 30, most_bins=4, most_beats=4):
            self.handed(led, line=line, standing=standing, run=run)


class TakenBack(Told):
    def test_of_none(self):
        self.told(taken_back([]), [])
        self.told(taken_back(()), [])

    def test_ordinary(self):
        run = [("forth", (1, 2)), ("back", (None, 0)), ("forth", (3, BILLION))]
        self.told(taken_back(run), [("back", (3, BILLION)), ("forth", (None, 0)), ("back", (1, 2))])
        self.told(taken_back(run=run[:1]), [("back", (1, 2))])

    def test_twice_gives_the_first_back(self):
        for line, standing, run in some_runs(41, 100):
            self.told(taken_back(taken_back(run)), run)

    def test_of_sixty(self):
        chance = random.Random(42)
        run = some_run(chance, GREAT_ROW, 60, BILLION, WAYS)
        told = taken_back(run)
        self.told(len(told), 60)
        for (way, widths), (other, same) in zip(run, reversed(told)):
            self.told(same, widths)
            self.told(other, "back" if way == "forth" else "forth")

    def test_each_stead(self):
        run = [("forth", (1, None)), ("back", (0, 2))]
        wanted = [("forth", (0, 2)), ("back", (1, None))]
        for stead in steads(run):
            held = copy.deepcopy(stead)
            self.told(taken_back(stead), wanted)
            self.told(stead, held)

    def test_handed_in(self):
        for line, standing, run in some_runs(43, 30):
            self.handed(taken_back, run=run)


class OneWay(Told):
    """A run of one way, done, taken back and done once more, is as done once, by every gate."""

    def check(self, line, standing, run):
        held, counts = led(line, standing, run)
        back, back_counts = led(line, held, taken_back(run))
        again, again_counts = led(line, back, run)
        self.told(again, held)
        self.told(added(counts, back_counts, again_counts), counts)
        self.told(led(line, standing, run + taken_back(run) + run), (held, counts))

    def test_forth_and_back(self):
        for way in WAYS:
            for line, standing, run in some_runs(51, 250, ways=(way,)):
                self.check(line, standing, run)

    def test_of_sixty(self):
        chance = random.Random(52)
        for way in WAYS:
            for line in (GREAT_ROW, GREAT_RING):
                standing = tuple(chance.randint(0, BILLION) for _ in range(24))
                self.check(line, standing, some_run(chance, line, 60, BILLION, (way,)))

    def test_of_both_ways_it_need_not_be(self):
        # So the checks above see more than what holds of any run.
        missed = 0
        for line, standing, run in some_runs(53, 200):
            held, counts = led(line, standing, run)
            missed += led(line, standing, run + taken_back(run) + run) != (held, counts)
        self.assertGreater(missed, 0)

    def test_of_free_room_with_all_turned_about(self):
        for line, standing, run in some_runs(54, 250):
            about = [(way, turned_widths(line, widths)) for way, widths in run]
            held, counts = led(line, standing, run)
            holes, hole_counts = led(turned_line(line), turned(line, lacking(line, standing)), about)
            self.told(holes, turned(line, lacking(line, held)))
            self.told(hole_counts, turned_widths(line, counts))


if __name__ == "__main__":
    unittest.main()
