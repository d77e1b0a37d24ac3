import unittest

from forthback.beats import beat
from forthback.been import depth, had, is_behind, raised
from forthback.errors import Barred
from forthback.far import counts, far, far_turns
from helpers import BILLION, SHORT_LINES, TRILLION, WAYS, Told
from helpers import all_standings, all_widths, gate_count, run_by_hand, short_cases, some_cases, turns_by_hand

OTHER = {"forth": "back", "back": "forth"}
MOST = 4


def leading(line, widths, way, many):
    """For each standing the list of pairs (standing, counts) that lead to it by so many beats."""
    found = {standing: [] for standing in all_standings(line)}
    for standing in all_standings(line):
        held, gone = run_by_hand(line, standing, [(way, widths)] * many)
        found[held].append((standing, gone))
    return found


def each_short_line():
    for line in SHORT_LINES:
        for widths in all_widths(line, (0, 1, None)):
            for way in WAYS:
                yield line, widths, way


def sizes(numbers):
    return [abs(number) for number in numbers]


class IsBehind(Told):
    def test_ordinary(self):
        row = ("row", (2, 2))
        # Out of the last bin all goes: where it's full, all came from the other one, which can't be full then.
        self.no(is_behind(row, (None,) * 3, (2, 2), "forth", 1))
        self.no(is_behind(row, (None,) * 3, (2, 2), "forth", 2))
        self.yes(is_behind(row, (None,) * 3, (2, 0), "forth", 1))
        self.yes(is_behind(row, (0,) * 3, (2, 1), "forth", TRILLION))
        self.yes(is_behind(("ring", (1, 1)), (None, None), (1, 0), "forth", TRILLION))
        self.yes(is_behind(("row", (1,)), (None, None), (0,), "back", TRILLION))
        self.yes(is_behind(("row", (2,)), (None, None), (1,), "forth", 0))

    def test_of_no_beats(self):
        for line, widths, standing in some_cases(301, 50, 8, 9):
            for way in WAYS:
                self.yes(is_behind(line, widths, standing, way, 0))

    def test_beside_all_standings(self):
        for line, widths, way in each_short_line():
            for many in range(MOST + 1):
                for standing, led in leading(line, widths, way, many).items():
                    self.told(is_behind(line, widths, standing, way, many), led != [])

    def test_left_as_it_is(self):
        for line, widths, standing in short_cases((0, 1, 2)):
            for way in WAYS:
                held, gone = turns_by_hand(line, widths, standing, [(OTHER[way], 3), (way, 3)])
                self.told(is_behind(line, widths, standing, way, 3), held == standing)
                self.told(held == standing, set(gone) == {0})

    def test_what_comes_of_beats_is_behind_them(self):
        for line, widths, standing in some_cases(302, 40, 12, BILLION):
            for way in WAYS:
                for many in (1, 5, 10 ** 6, TRILLION):
                    self.yes(is_behind(line, widths, far(line, widths, standing, way, many), way, many))
                    self.yes(is_behind(line, widths, far(line, widths, standing, way, many), way, many - 1))

    def test_handed_in(self):
        for line, widths, standing in some_cases(303, 20, 4, 4):
            for way in WAYS:
                self.handed(is_behind, line=line, widths=widths, standing=standing, way=way, many=2)


class Had(Told):
    def test_ordinary(self):
        self.told(had(("row", (2, 2)), (None,) * 3, (2, 0), "forth", 1), ((0, 2), (2, 0, 2)))
        self.told(had(("row", (5,)), (2, 1), (3,), "forth", 1), ((2,), (2, 1)))
        self.told(had(("row", (5,)), (2, 1), (3,), "back", 1), ((4,), (-2, -1)))
        self.told(had(("ring", (1, 1)), (None, None), (1, 0), "forth", 3), ((0, 1), (2, 1)))

    def test_of_no_beats(self):
        for line, widths, standing in some_cases(311, 50, 8, 9):
            for way in WAYS:
                self.told(had(line, widths, standing, way, 0), (standing, (0,) * gate_count(line)))

    def test_barred(self):
        row = ("row", (2, 2))
        # (2, 2) by two beats back comes to (2, 0), by two forth from there to (0, 2) and (2, 0).
        self.told(turns_by_hand(row, (None,) * 3, (2, 2), [("back", 2), ("forth", 2)])[1], (0, 0, 2))
        self.refused(Barred, {"gate": 2}, had, row, (None,) * 3, (2, 2), "forth", 2)
        self.assertTrue(issubclass(Barred, RuntimeError))

    def test_beside_all_standings(self):
        for line, widths, way in each_short_line():
            for many in range(MOST + 1):
                for standing, led in leading(line, widths, way, many).items():
                    if led:
                        self.check_had(line, widths, standing, way, many, led)
                    else:
                        gone = turns_by_hand(line, widths, standing, [(OTHER[way], many), (way, many)])[1]
                        first = [gate for gate, count in enumerate(gone) if count != 0][0]
                        self.refused(Barred, {"gate": first}, had, line, widths, standing, way, many)

    def check_had(self, line, widths, standing, way, many, led):
        told = had(line, widths, standing, way, many)
        self.assertIn(told, led)
        self.told(told, led[led.index(told)])
        for _, gone in led:
            for most, other in zip(sizes(told[1]), sizes(gone)):
                self.assertGreaterEqual(most, other)

    def test_a_great_many(self):
        for line, widths, standing in some_cases(312, 40, 12, BILLION):
            for way in WAYS:
                held = far(line, widths, standing, way, TRILLION)
                first, gone = had(line, widths, held, way, TRILLION)
                self.told(far(line, widths, first, way, TRILLION), held)
                self.told(counts(line, widths, first, way, TRILLION), gone)
                # By no gate did more go from the one that we know to lead here.
                for most, other in zip(sizes(gone), sizes(counts(line, widths, standing, way, TRILLION))):
                    self.assertGreaterEqual(most, other)

    def test_a_refusal_changes_nothing(self):
        line, widths, standing = ["row", [2, 2]], [None, None, None], [2, 2]
        self.refused(Barred, {"gate": 2}, had, line, widths, standing, "forth", 2)
        self.refused(Barred, {"gate": 2}, had, line, widths, standing, "forth", 2)
        self.told([line, widths, standing], [["row", [2, 2]], [None, None, None], [2, 2]])

    def test_handed_in(self):
        for line, widths, standing in some_cases(313, 20, 4, 4):
            for way in WAYS:
                held = beat(line, widths, beat(line, widths, standing, way), way)
                self.handed(had, line=line, widths=widths, standing=held, way=way, many=2)


class Raised(Told):
    def test_ordinary(self):
        self.told(raised(("row", (2, 2)), (None,) * 3, (2, 2), "forth", 2), ((2, 0), (0, 0, 2)))
        self.told(raised(("row", (2, 2)), (None,) * 3, (2, 0), "forth", 1), ((2, 0), (0, 0, 0)))
        self.told(raised(("row", (2, 2)), (None,) * 3, (2, 2), "back", 2), ((0, 2), (-2, 0, 0)))

    def test_beside_beats(self):
        for line, widths, standing in some_cases(321, 150, 6, 9):
            for way in WAYS:
                for many in (0, 1, 2, 5, 9):
                    turns = [(OTHER[way], many), (way, many)] if many else []
                    self.told(raised(line, widths, standing, way, many), turns_by_hand(line, widths, standing, turns))

    def test_the_least_of_all_behind_so_many(self):
        for line, widths, way in each_short_line():
            sign = 1 if way == "forth" else -1
            for many in (1, 2, MOST):
                behind = [held for held, led in leading(line, widths, way, many).items() if led]
                for standing in all_standings(line):
                    held, gone = raised(line, widths, standing, way, many)
                    self.assertIn(held, behind)
                    for other in behind:
                        for reach in counts_between(line, standing, other, sign):
                            for least, one in zip(sizes(gone), sizes(reach)):
                                self.assertLessEqual(least, one)
                    self.assertGreaterEqual(min(sign * count for count in gone), 0)

    def test_a_great_many(self):
        for line, widths, standing in some_cases(322, 40, 12, BILLION):
            for way in WAYS:
                told = raised(line, widths, standing, way, TRILLION)
                self.told(told, far_turns(line, widths, standing, [(OTHER[way], TRILLION), (way, TRILLION)]))
                self.yes(is_behind(line, widths, told[0], way, TRILLION))
                self.told(is_behind(line, widths, standing, way, TRILLION), told == (standing, (0,) * gate_count(line)))

    def test_handed_in(self):
        for line, widths, standing in some_cases(323, 20, 4, 4):
            for way in WAYS:
                for many in (0, 2):
                    self.handed(raised, line=line, widths=widths, standing=standing, way=way, many=many)


def counts_between(line, standing, other, sign):
    """Counts that lead from one standing to another, all of one sign: the least such, and none where none do."""
    told = [0]
    for had_there, has_there in zip(standing, other):
        told.append(told[-1] + had_there - has_there)
    if line[0] == "ring":
        if told.pop() != 0:
            return []
    # All others are these with one number more, or less, at each gate.
    base = min(told) if sign > 0 else max(told)
    return [[count - base for count in told]]


class Depth(Told):
    def test_ordinary(self):
        self.told(depth(("row", (2, 2)), (None,) * 3, (2, 2), "forth", 9), 0)
        self.told(depth(("ring", (1, 1)), (None, None), (1, 0), "forth", TRILLION), TRILLION)
        self.told(depth(("row", (3,)), (1, 0), (2,), "forth", TRILLION), 2)
        self.told(depth(("row", (3,)), (1, 0), (2,), "back", TRILLION), 1)
        self.told(depth(("row", (BILLION,)), (1, 0), (BILLION - 5,), "forth", TRILLION), BILLION - 5)
        self.told(depth(("row", (BILLION,)), (1, 0), (BILLION - 5,), "back", TRILLION), 5)
        self.told(depth(("row", (BILLION,)), (1, 0), (BILLION,), "forth", TRILLION), TRILLION)

    def test_at_most_none(self):
        for line, widths, standing in some_cases(331, 50, 8, 9):
            for way in WAYS:
                self.told(depth(line, widths, standing, way, 0), 0)

    def test_beside_all_standings(self):
        for line, widths, way in each_short_line():
            found = [leading(line, widths, way, many) for many in range(MOST + 1)]
            for standing in all_standings(line):
                deepest = max(many for many in range(MOST + 1) if found[many][standing])
                for most in range(MOST + 1):
                    self.told(depth(line, widths, standing, way, most), min(most, deepest))

    def test_a_great_many(self):
        for line, widths, standing in some_cases(332, 40, 12, BILLION):
            for way in WAYS:
                told = depth(line, widths, standing, way, TRILLION)
                self.yes(is_behind(line, widths, standing, way, told))
                if told < TRILLION:
                    self.no(is_behind(line, widths, standing, way, told + 1))
                    self.told(depth(line, widths, standing, way, told + 1), told)
                self.told(depth(line, widths, standing, way, told), told)
                held = far(line, widths, standing, way, TRILLION)
                self.told(depth(line, widths, held, way, TRILLION), TRILLION)

    def test_handed_in(self):
        for line, widths, standing in some_cases(333, 20, 4, 4):
            for way in WAYS:
                self.handed(depth, line=line, widths=widths, standing=standing, way=way, most=6)


if __name__ == "__main__":
    unittest.main()
