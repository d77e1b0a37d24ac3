import itertools
import random
import unittest

from forthback.errors import NoStep
from forthback.walks import cost, least_walk, price, shows_count
from helpers import BILLION, GREAT_RING, GREAT_ROW, ODD_THINGS, Told
from helpers import cost_by_hand, exchanged, gate_count, run_by_hand, short_cases, some_cases, steads, walks_by_hand


def costs_of(line, widths, standing):
    count = gate_count(line)
    return [[cost(line, widths, standing, gate, other) for other in range(count)] for gate in range(count)]


def count_by_hand(line, widths, standing, gate, many):
    return run_by_hand(line, standing, [("forth", widths)] * many)[1][gate]


def some_walk(chance, line, steps):
    return [chance.randrange(gate_count(line)) for _ in range(steps + 1)]


class Cost(Told):
    def test_of_a_row_of_one(self):
        self.told(costs_of(("row", (5,)), (7, None), (2,)), [[7, 3], [2, None]])
        self.told(costs_of(("row", (5,)), (None, 0), (5,)), [[None, 0], [5, 0]])

    def test_of_a_row_of_two(self):
        self.told(costs_of(("row", (5, 9)), (7, None, 0), (2, 8)), [[7, 3, None], [2, None, 1], [None, 8, 0]])

    def test_of_a_longer_row(self):
        self.told(
            costs_of(("row", (5, 9, 4)), (None, 1, 2, None), (2, 8, 4)),
            [[None, 3, None, None], [2, 1, 1, None], [None, 8, 2, 0], [None, None, 4, None]],
        )

    def test_of_a_ring_of_two_the_lesser(self):
        # From gate 0 forth over bin 0, which has room for 3, or back over bin 1, which holds 8.
        self.told(costs_of(("ring", (5, 9)), (7, None), (2, 8)), [[7, 3], [1, None]])
        # From gate 1 back over bin 0, which holds 2, or forth over bin 1, which has room for 5.
        self.told(costs_of(("ring", (5, 9)), (None, 0), (2, 4)), [[None, 3], [2, 0]])
        self.told(costs_of(("ring", (9, 9)), (1, 1), (2, 4)), [[1, 4], [2, 1]])

    def test_of_rings_of_three_and_more(self):
        self.told(costs_of(("ring", (5, 9, 4)), (7, None, 2), (2, 8, 4)), [[7, 3, 4], [2, None, 1], [0, 8, 2]])
        self.told(
            costs_of(("ring", (5, 9, 4, 6)), (None,) * 4, (2, 8, 4, 1)),
            [[None, 3, None, 1], [2, None, 1, None], [None, 8, None, 0], [5, None, 4, None]],
        )

    def test_by_hand(self):
        for line, widths, standing in itertools.chain(short_cases(), some_cases(101, 200, 7, 9)):
            count = gate_count(line)
            wanted = [[cost_by_hand(line, widths, standing, one, two) for two in range(count)] for one in range(count)]
            self.told(costs_of(line, widths, standing), wanted)

    def test_no_step_off_the_line(self):
        for line, widths, standing in some_cases(105, 50, 5, 9):
            count = gate_count(line)
            for gate in range(count):
                for other in (-1, -2, -count, count, count + 1):
                    self.told(cost(line, widths, standing, gate, other), None)
                    self.told(cost(line, widths, standing, other, gate), None)

    def test_great_ones(self):
        self.told(cost(GREAT_ROW, (BILLION,) * 25, (BILLION,) * 24, 24, 23), BILLION)
        self.told(cost(GREAT_ROW, (BILLION,) * 25, (BILLION,) * 24, 23, 24), 0)
        self.told(cost(GREAT_ROW, (BILLION,) * 25, (BILLION,) * 24, 24, 0), None)
        self.told(cost(GREAT_RING, (BILLION,) * 24, (1,) * 24, 23, 0), BILLION - 1)
        self.told(cost(GREAT_RING, (BILLION,) * 24, (1,) * 24, 0, 23), 1)
        self.told(cost(GREAT_RING, (BILLION,) * 24, (1,) * 24, 5, 5), BILLION)

    def test_handed_in(self):
        for line, widths, standing in some_cases(102, 20, 3, 5):
            for gate, other in itertools.product(range(gate_count(line)), repeat=2):
                self.handed(cost, line=line, widths=widths, standing=standing, gate=gate, other=other)


class Price(Told):
    LINE = ("row", (5, 9, 4))
    WIDTHS = (None, 1, 2, None)
    STANDING = (2, 8, 4)

    def test_of_one_gate(self):
        for gate in range(4):
            self.told(price(self.LINE, self.WIDTHS, self.STANDING, [gate]), 0)

    def test_ordinary(self):
        self.told(price(self.LINE, self.WIDTHS, self.STANDING, [0, 1]), 3)
        walk = [0, 1, 1, 2, 3, 2, 2, 1, 0]
        self.told(price(self.LINE, self.WIDTHS, self.STANDING, walk), 3 + 1 + 1 + 0 + 4 + 2 + 8 + 2)
        self.told(price(("ring", (5, 9)), (7, None), (2, 8), [0, 1, 0, 0]), 3 + 1 + 7)

    def test_no_step(self):
        for walk, at in (
            ([0, 0], 0), ([0, 2], 0), ([0, 1, 3], 1), ([0, 1, 2, 3, 3], 3), ([3, 3, 0, 0], 0), ([1, 1, 1, 1, 3, 3], 3),
            ([0, 1, 2, 3, 0], 3),
        ):
            self.refused(NoStep, {"at": at}, price, self.LINE, self.WIDTHS, self.STANDING, walk)
        self.refused(NoStep, {"at": 1}, price, ("ring", (5, 9)), (7, None), (2, 8), [0, 1, 1, 1])

    def test_by_hand(self):
        chance = random.Random(103)
        for line, widths, standing in some_cases(104, 300, 5, 9):
            walk = some_walk(chance, line, chance.randint(0, 8))
            steps = [cost_by_hand(line, widths, standing, one, two) for one, two in zip(walk, walk[1:])]
            if None in steps:
                self.refused(NoStep, {"at": steps.index(None)}, price, line, widths, standing, walk)
            else:
                self.told(price(line, widths, standing, walk), sum(steps))

    def test_of_four_hundred_steps(self):
        walk = [gate % 2 for gate in range(401)]
        self.told(price(GREAT_ROW, (None,) * 25, (1,) * 24, walk), 200 * BILLION)
        self.refused(NoStep, {"at": 400}, price, GREAT_ROW, (None,) * 25, (1,) * 24, walk + [24])

    def test_handed_in(self):
        self.handed(price, line=self.LINE, widths=self.WIDTHS, standing=self.STANDING, walk=[0, 1, 1, 2])
        for line in steads(("ring", (5, 9))):
            for walk in ([0, 1], (0, 1)):
                self.told(price(line, [7, None], [2, 8], walk), 3)

    def test_a_refusal_changes_nothing(self):
        line, widths, standing, walk = ["row", [5, 9]], [None, 1, 1], [2, 8], [0, 0]
        self.refused(NoStep, {"at": 0}, price, line, widths, standing, walk)
        self.told([line, widths, standing, walk], [["row", [5, 9]], [None, 1, 1], [2, 8], [0, 0]])


class LeastWalk(Told):
    def test_of_no_step(self):
        for line, widths, standing in some_cases(111, 50, 6, 9):
            for gate in range(gate_count(line)):
                self.told(least_walk(line, widths, standing, gate, 0), (0, [gate]))

    def test_ordinary(self):
        self.told(least_walk(("row", (5,)), (7, None), (2,), 0, 1), (3, [0, 1]))
        self.told(least_walk(("row", (5,)), (1, None), (2,), 1, 3), (4, [1, 0, 0, 0]))
        self.told(least_walk(("row", (5, 9)), (None, None, 0), (2, 8), 1, 4), (1, [1, 2, 2, 2, 2]))

    def test_the_first_as_lists_rise(self):
        # All walks cost the same: the least gates go first.
        self.told(least_walk(("row", (2, 2)), (1, 1, 1), (1, 1), 2, 4), (4, [2, 1, 0, 0, 0]))
        self.told(least_walk(("row", (2, 2)), (None, 1, 1), (1, 1), 1, 4), (4, [1, 0, 1, 0, 1]))
        self.told(least_walk(("ring", (2, 2, 2)), (None,) * 3, (1, 1, 1), 2, 4), (4, [2, 0, 1, 0, 1]))
        self.told(least_walk(("ring", (2, 2)), (1, 1), (1, 1), 1, 3), (3, [1, 0, 0, 0]))

    def test_beside_all_walks(self):
        for line, widths, standing in some_cases(112, 150, 4, 4):
            for gate in range(gate_count(line)):
                for many in range(6):
                    wanted = min(walks_by_hand(line, widths, standing, gate, many))
                    self.told(least_walk(line, widths, standing, gate, many), wanted)

    def test_beside_beats(self):
        for line, widths, standing in some_cases(113, 100, 7, 12):
            for gate in range(gate_count(line)):
                for many in (1, 2, 7, 30):
                    told, walk = least_walk(line, widths, standing, gate, many)
                    self.told(told, count_by_hand(line, widths, standing, gate, many))
                    self.told(price(line, widths, standing, walk), told)
                    self.told((walk[0], len(walk)), (gate, many + 1))

    def test_of_four_hundred_steps(self):
        for line in (GREAT_ROW, GREAT_RING):
            widths = tuple(None if gate % 3 else BILLION // (gate + 1) for gate in range(gate_count(line)))
            standing = tuple((at + 1) ** 6 for at in range(24))
            for gate in (0, 11, 23):
                told, walk = least_walk(line, widths, standing, gate, 400)
                self.told(told, count_by_hand(line, widths, standing, gate, 400))
                self.told(len(walk), 401)
                self.yes(shows_count(line, widths, standing, gate, 400, walk))

    def test_handed_in(self):
        for line, widths, standing in some_cases(114, 20, 4, 5):
            for many in (0, 1, 5):
                self.handed(least_walk, line=line, widths=widths, standing=standing, gate=1, many=many)


class ShowsCount(Told):
    def test_the_least_walk(self):
        for line, widths, standing in some_cases(121, 100, 6, 9):
            for gate in range(gate_count(line)):
                for many in (0, 1, 2, 9):
                    walk = least_walk(line, widths, standing, gate, many)[1]
                    self.yes(shows_count(line, widths, standing, gate, many, walk))

    def test_beside_all_lists_of_gates(self):
        for line, widths, standing in some_cases(122, 60, 3, 3):
            count = gate_count(line)
            for gate in range(count):
                for many in range(4):
                    wanted = count_by_hand(line, widths, standing, gate, many)
                    shown = [walk for told, walk in walks_by_hand(line, widths, standing, gate, many) if told == wanted]
                    for walk in itertools.product(range(count), repeat=many + 1):
                        got = shows_count(line, widths, standing, gate, many, list(walk))
                        self.told(got, list(walk) in shown)

    def test_others_of_the_same_price(self):
        line, widths, standing = ("row", (2, 2)), (1, 1, 1), (1, 1)
        for walk in ([2, 1, 0, 0], [2, 2, 2, 2], [2, 1, 2, 1], [2, 2, 1, 0]):
            self.yes(shows_count(line, widths, standing, 2, 3, walk))
            self.no(shows_count(line, widths, standing, 1, 3, walk))
            self.no(shows_count(line, widths, standing, 2, 2, walk))
            self.no(shows_count(line, widths, standing, 2, 4, walk))
            self.no(shows_count(line, widths, standing, 2, 3, tuple(walk)))
            self.no(shows_count(line, widths, standing, 2, 3, walk[:-1]))
            self.no(shows_count(line, widths, standing, 2, 3, walk + walk[-1:]))
            self.no(shows_count(line, widths, standing, 2, 3, [walk]))
        self.no(shows_count(line, widths, standing, 2, 3, [2, 0, 0, 0]))
        self.no(shows_count(line, widths, standing, 2, 3, [2, 2, 2, 0]))

    def test_a_price_too_great(self):
        line, widths, standing = ("row", (2, 2)), (1, 2, 1), (1, 1)
        self.yes(shows_count(line, widths, standing, 1, 2, [1, 0, 0]))
        self.no(shows_count(line, widths, standing, 1, 2, [1, 1, 0]))
        self.no(shows_count(line, widths, standing, 1, 2, [1, 1, 1]))

    def test_as_many_steps_where_none_costs_anything(self):
        line, widths, standing = ("row", (2,)), (0, 0), (1,)
        for many in range(5):
            for gates in range(7):
                self.told(shows_count(line, widths, standing, 1, many, [1] * gates), gates == many + 1)
                self.no(shows_count(line, widths, standing, 0, many, [1] * gates))

    def test_gates_that_are_not_there(self):
        for form, many in (("row", 4), ("ring", 3)):
            line, widths, standing = (form, (2, 2, 2)), (1,) * many, (1, 1, 1)
            for at in range(4):
                for gate in (-1, -2, -many, many, many + 1, 10 ** 30, True, False, None, "0", "", (), [], [0], (0,)):
                    self.no(shows_count(line, widths, standing, 0, 3, exchanged([0, 0, 0, 0], at, gate)), gate)
                    self.no(shows_count(line, widths, standing, 1, 3, exchanged([1, 1, 1, 1], at, gate)), gate)
            self.yes(shows_count(line, widths, standing, 0, 3, [0, 0, 0, 0]))
            self.yes(shows_count(line, widths, standing, 1, 3, [1, 1, 1, 1]))

    def test_true_and_false_are_no_gates(self):
        line, widths, standing = ("row", (2,)), (1, 1), (1,)
        self.yes(shows_count(line, widths, standing, 1, 0, [1]))
        self.no(shows_count(line, widths, standing, 1, 0, [True]))
        self.no(shows_count(line, widths, standing, 0, 0, [False]))
        self.no(shows_count(line, widths, standing, 0, 1, [0, True]))

    def test_things_of_any_kind(self):
        for line in (("row", (2,)), ("ring", (2, 2))):
            for thing in ODD_THINGS + ([],):
                for gate in (0, 1):
                    for many in (0, 1, 2):
                        self.no(shows_count(line, (1, 1), (1,) * len(line[1]), gate, many, thing), thing)

    def test_without_bounds(self):
        line, widths, standing = ("row", (2,)), (1, 1), (1,)
        self.yes(shows_count(line, widths, standing, 0, 1999, [0, 1] * 1000))
        self.no(shows_count(line, widths, standing, 0, 3, [0, 1] * 1000))
        self.no(shows_count(line, widths, standing, 0, 3, [10 ** 300] * 4))

    def test_handed_in(self):
        for line, widths, standing in some_cases(123, 20, 4, 5):
            for thing in (least_walk(line, widths, standing, 1, 3)[1], (1, 1, 1, 1), [1, [0], 1, 1], None):
                self.handed(shows_count, line=line, widths=widths, standing=standing, gate=1, many=3, thing=thing)


if __name__ == "__main__":
    unittest.main()
