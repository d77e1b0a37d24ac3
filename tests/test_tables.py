import itertools
import random
import unittest

from forthback.beats import beats
from forthback.errors import Unlike
from forthback.tables import Table
from helpers import BILLION, GREAT_RING, GREAT_ROW, ODD_THINGS, TRILLION, WAYS, Told
from helpers import gate_count, run_by_hand, some_cases, some_number, steads, turns_by_hand, walks_by_hand


def prices_of(table, line):
    count = gate_count(line)
    return [[table.price(gate, other) for other in range(count)] for gate in range(count)]


def prices_by_hand(line, widths, standing, many):
    count = gate_count(line)
    told = [[None] * count for _ in range(count)]
    for gate in range(count):
        for price, walk in walks_by_hand(line, widths, standing, gate, many):
            if told[gate][walk[-1]] is None or price < told[gate][walk[-1]]:
                told[gate][walk[-1]] = price
    return told


def led_by_hand(prices, numbers):
    return tuple(min(step + numbers[at] for at, step in enumerate(row) if step is not None) for row in prices)


def led_back_by_hand(prices, numbers):
    told = []
    for other in range(len(prices)):
        found = [numbers[gate] - row[other] for gate, row in enumerate(prices) if row[other] is not None]
        told.append(max(found))
    return tuple(told)


def told_by(table, line):
    numbers = [(-7) ** gate for gate in range(gate_count(line))]
    return [table.steps(), prices_of(table, line), table.counts(), table.led(numbers), table.led_back(numbers)]


class Prices(Told):
    def test_of_no_step(self):
        for line, widths, standing in some_cases(131, 50, 6, 9):
            table = Table(line, widths, standing, 0)
            count = gate_count(line)
            self.told(table.steps(), 0)
            wanted = [[0 if gate == other else None for other in range(count)] for gate in range(count)]
            self.told(prices_of(table, line), wanted)
            self.told(table.counts(), (0,) * count)

    def test_of_one_step(self):
        self.told(prices_of(Table(("row", (5,)), (7, None), (2,), 1), ("row", (5,))), [[7, 3], [2, None]])
        self.told(prices_of(Table(("ring", (5, 9)), (7, None), (2, 8), 1), ("ring", (5, 9))), [[7, 3], [1, None]])

    def test_of_more_steps(self):
        line = ("row", (5, 9))
        told = prices_of(Table(line, (None, None, None), (2, 8), 2), line)
        self.told(told, [[5, None, 4], [None, 5, None], [10, None, 9]])
        told = prices_of(Table(line, (None, None, None), (2, 8), 3), line)
        self.told(told, [[None, 8, None], [7, None, 6], [None, 13, None]])

    def test_beside_all_walks(self):
        for line, widths, standing in some_cases(132, 120, 4, 5):
            for many in range(6):
                table = Table(line, widths, standing, many)
                self.told(table.steps(), many)
                self.told(prices_of(table, line), prices_by_hand(line, widths, standing, many))

    def test_none_where_there_is_none(self):
        # With all gates wide each step leads to a neighbour, so that odd and even stay apart.
        line = ("row", (3, 3, 3))
        for many in (2, 5, TRILLION, TRILLION + 1):
            told = prices_of(Table(line, (None,) * 4, (1, 2, 1), many), line)
            for gate, other in itertools.product(range(4), repeat=2):
                self.told(told[gate][other] is None, (gate + other + many) % 2 == 1)

    def test_a_great_many_steps(self):
        line = ("row", (5,))
        told = prices_of(Table(line, (None, None), (2,), TRILLION), line)
        self.told(told, [[5 * TRILLION // 2, None], [None, 5 * TRILLION // 2]])
        told = prices_of(Table(line, (2, None), (2,), TRILLION), line)
        self.told(told, [[2 * TRILLION, 2 * TRILLION + 1], [2 * TRILLION, 2 * TRILLION + 1]])

    def test_great_rooms(self):
        for line in (GREAT_ROW, GREAT_RING):
            count = gate_count(line)
            table = Table(line, (BILLION,) * count, (BILLION // 2,) * 24, TRILLION)
            for gate, other in ((0, 0), (3, 3), (0, 12), (count - 1, count - 3)):
                self.told(table.price(gate, other), TRILLION * BILLION // 2)
            # To an odd one an even number of steps leads only where one of them stays.
            for gate, other in ((0, 1), (11, 6), (count - 1, count - 2)):
                self.told(table.price(gate, other), TRILLION * BILLION // 2 + BILLION // 2)
            self.told(table.counts(), (TRILLION * BILLION // 2,) * count)
            self.told(table.then(table).price(1, 1), TRILLION * BILLION)


class Counts(Told):
    def test_beside_beats(self):
        for line, widths, standing in some_cases(133, 150, 7, 9):
            for many in (0, 1, 2, 3, 10, 33):
                wanted = run_by_hand(line, standing, [("forth", widths)] * many)[1]
                self.told(Table(line, widths, standing, many).counts(), wanted)

    def test_the_least_price_of_each_gate(self):
        for line, widths, standing in some_cases(134, 60, 7, 9):
            for many in (1, 6, 10 ** 6, TRILLION):
                table = Table(line, widths, standing, many)
                prices = prices_of(table, line)
                self.told(table.counts(), tuple(min(step for step in row if step is not None) for row in prices))


class Then(Told):
    def test_as_many_steps_as_both(self):
        for line, widths, standing in some_cases(141, 60, 5, 9):
            for one, other in ((0, 0), (0, 3), (3, 0), (2, 5), (7, 1), (TRILLION, 3), (TRILLION, TRILLION)):
                both = Table(line, widths, standing, one).then(Table(line, widths, standing, other))
                wanted = Table(line, widths, standing, one + other)
                self.told(both.steps(), one + other)
                self.yes(both == wanted)
                self.told(told_by(both, line), told_by(wanted, line))
                self.yes(Table(line, widths, standing, other).then(Table(line, widths, standing, one)) == both)

    def test_beside_all_walks(self):
        for line, widths, standing in some_cases(142, 40, 3, 5):
            for one, other in ((1, 2), (3, 2), (0, 4)):
                both = Table(line, widths, standing, one).then(other=Table(line, widths, standing, other))
                self.told(prices_of(both, line), prices_by_hand(line, widths, standing, one + other))

    def test_both_stay_as_they_are(self):
        for line, widths, standing in some_cases(143, 30, 5, 9):
            one, other = Table(line, widths, standing, 3), Table(line, widths, standing, 4)
            held = told_by(one, line), told_by(other, line)
            one.then(other)
            other.then(one)
            one.then(one)
            self.told((told_by(one, line), told_by(other, line)), held)

    def test_unlike(self):
        table = Table(("row", (2, 3)), (1, None, 0), (1, 2), 4)
        for line, widths, standing in (
            (("row", (2, 4)), (1, None, 0), (1, 2)),
            (("row", (3, 3)), (1, None, 0), (1, 2)),
            (("ring", (2, 3, 4)), (1, None, 0), (1, 2, 0)),
            (("row", (2, 3)), (1, None, 1), (1, 2)),
            (("row", (2, 3)), (1, 0, 0), (1, 2)),
            (("row", (2, 3)), (1, None, None), (1, 2)),
            (("row", (2, 3)), (1, None, 0), (1, 1)),
            (("row", (2, 3)), (1, None, 0), (2, 2)),
        ):
            for many in (0, 4, 5):
                other = Table(line, widths, standing, many)
                held = told_by(table, ("row", (2, 3))), told_by(other, line)
                self.refused(Unlike, {}, table.then, other)
                self.refused(Unlike, {}, other.then, table)
                self.told((told_by(table, ("row", (2, 3))), told_by(other, line)), held)

    def test_unlike_is_a_value_error_and_steps_do_not_matter(self):
        self.assertTrue(issubclass(Unlike, ValueError))
        row, ring = Table(("row", (2, 3)), (1, 1, 1), (1, 2), 1), Table(("ring", (2, 3)), (1, 1), (1, 2), 1)
        self.refused(Unlike, {}, row.then, ring)
        self.refused(Unlike, {}, ring.then, row)
        self.told(row.then(Table(("row", (2, 3)), (1, 1, 1), (1, 2), 9)).steps(), 10)

    def test_lists_stand_for_tuples(self):
        one = Table(["row", [2, 3]], [1, 1, 1], [1, 2], 1)
        self.told(one.then(Table(("row", (2, 3)), (1, 1, 1), (1, 2), 9)).steps(), 10)


class Equal(Told):
    def test_like_ones(self):
        for line, widths, standing in some_cases(151, 60, 5, 9):
            for many in (0, 1, 5, TRILLION):
                one, other = Table(line, widths, standing, many), Table(line, widths, standing, many)
                self.yes(one == other)
                self.no(one != other)
                self.yes(one == one)
                self.no(one == Table(line, widths, standing, many + 1))
                self.yes(one != Table(line, widths, standing, many + 1))

    def test_unlike_ones(self):
        made = [
            Table(("row", (2, 3)), (1, None, 0), (1, 2), 4), Table(("row", (2, 4)), (1, None, 0), (1, 2), 4),
            Table(("row", (2, 3)), (1, None, 1), (1, 2), 4), Table(("row", (2, 3)), (1, None, 0), (1, 3), 4),
            Table(("row", (2, 3)), (1, None, 0), (1, 2), 3), Table(("ring", (2, 3)), (1, None), (1, 2), 4),
            Table(("ring", (2, 3, 1)), (1, None, 0), (1, 2, 0), 4), Table(("row", (2, 3)), (None, 1, 0), (1, 2), 4),
        ]
        for (at, one), (place, other) in itertools.product(enumerate(made), repeat=2):
            self.told(one == other, at == place)
            self.told(one != other, at != place)

    def test_same_prices_of_other_lines(self):
        # All shut, and no way to tell the prices of no step apart: they are not alike all the same.
        self.no(Table(("row", (2,)), (0, 0), (1,), 0) == Table(("row", (3,)), (0, 0), (1,), 0))
        self.no(Table(("row", (2,)), (0, 0), (1,), 0) == Table(("row", (2,)), (0, 1), (1,), 0))
        self.no(Table(("row", (2,)), (0, 0), (1,), 0) == Table(("row", (2,)), (0, 0), (2,), 0))

    def test_things_of_other_kinds(self):
        table = Table(("row", (2,)), (1, 1), (1,), 3)
        odd = ODD_THINGS + ([], {}, (("row", (2,)), (1, 1), (1,), 3), table.counts(), object(), Table)
        for thing in odd:
            self.no(table == thing)
            self.no(thing == table)
            self.yes(table != thing)

    def test_lists_stand_for_tuples(self):
        wanted = Table(("ring", (2, 3)), (1, None), (1, 2), 4)
        for line in steads(("ring", (2, 3))):
            for widths in ((1, None), [1, None]):
                for standing in ((1, 2), [1, 2]):
                    made = Table(line, widths, standing, 4)
                    self.yes(made == wanted)
                    self.yes(wanted == made)
                    self.told(told_by(made, line), told_by(wanted, line))


class LedAndBack(Told):
    def test_ordinary(self):
        table = Table(("row", (5,)), (7, None), (2,), 1)
        self.told(table.led([0, 0]), (3, 2))
        self.told(table.led([-10, 1]), (-3, -8))
        self.told(table.led([1, -10]), (-7, 3))
        self.told(table.led_back([0, 0]), (-2, -3))
        self.told(table.led_back([10, 1]), (3, 7))
        self.told(table.led_back([-10, 1]), (-1, -13))

    def test_of_no_step(self):
        self.told(Table(("ring", (5, 2, 2)), (7, None, 0), (2, 1, 2), 0).led([5, -3, 10 ** 13]), (5, -3, 10 ** 13))
        self.told(Table(("ring", (5, 2, 2)), (7, None, 0), (2, 1, 2), 0).led_back([5, -3, 10 ** 13]), (5, -3, 10 ** 13))

    def test_by_hand(self):
        chance = random.Random(161)
        for line, widths, standing in some_cases(162, 100, 4, 9):
            for many in (1, 2, 5):
                prices = prices_by_hand(line, widths, standing, many)
                table = Table(line, widths, standing, many)
                for most in (9, 10 ** 13):
                    numbers = [some_number(chance, -most, most) for _ in range(gate_count(line))]
                    self.told(table.led(numbers), led_by_hand(prices, numbers))
                    self.told(table.led_back(numbers), led_back_by_hand(prices, numbers))

    def test_of_a_great_many_steps(self):
        chance = random.Random(163)
        for line, widths, standing in some_cases(164, 30, 24, BILLION):
            table = Table(line, widths, standing, TRILLION)
            prices = prices_of(table, line)
            numbers = [chance.randint(-10 ** 13, 10 ** 13) for _ in range(gate_count(line))]
            self.told(table.led(numbers), led_by_hand(prices, numbers))
            self.told(table.led_back(numbers), led_back_by_hand(prices, numbers))
            # There, back and there again is there once; what was told may be handed in again.
            self.told(table.led(table.led_back(table.led(numbers))), table.led(numbers))
            self.told(table.led_back(table.led(table.led_back(numbers))), table.led_back(numbers))

    def test_on_a_line(self):
        for line, widths, standing in some_cases(165, 100, 6, 9):
            for many in (1, 3):
                table = Table(line, widths, standing, many)
                nought = (0,) * gate_count(line)
                for turns in ([("forth", many), ("back", many)], [("back", many), ("forth", many)]):
                    told = nought
                    for way, _ in turns:
                        told = table.led(told) if way == "forth" else table.led_back(told)
                    self.told(told, turns_by_hand(line, widths, standing, turns)[1])

    def test_handed_in(self):
        for line, widths, standing in some_cases(166, 20, 4, 5):
            table = Table(line, widths, standing, 3)
            numbers = [3 * gate - 4 for gate in range(gate_count(line))]
            self.handed(table.led, counts=numbers)
            self.handed(table.led_back, counts=numbers)
            self.handed(table.price, gate=0, other=1)


class KeepsItsOwn(Told):
    def test_names(self):
        table = Table(line=("row", (5,)), widths=(7, None), standing=(2,), many=1)
        self.told(table.price(gate=0, other=1), 3)
        self.told(table.price(other=0, gate=1), 2)
        self.told(table.then(other=table).steps(), 2)
        self.told(table.led(counts=[0, 0]), (3, 2))
        self.told(table.led_back(counts=[0, 0]), (-2, -3))
        other = Table(many=1, standing=(2,), widths=(7, None), line=("row", (5,)))
        self.told(told_by(other, ("row", (5,))), told_by(table, ("row", (5,))))

    def test_a_change_behind_is_not_seen(self):
        for form, widths in (("row", [1, None, 4]), ("ring", [1, None])):
            line, standing = [form, [2, 3]], [1, 2]
            like = Table((form, (2, 3)), tuple(widths), (1, 2), 5)
            table = Table(line, widths, standing, 5)
            held = told_by(table, like_line(form))
            line[0] = "row" if form == "ring" else "ring"
            line[1][0] = 99
            line[1].append(7)
            widths[0] = widths[1] = 0
            standing[0] = 0
            self.told(told_by(table, like_line(form)), held)
            self.yes(table == like)
            self.told(told_by(table.then(like), like_line(form)), told_by(like.then(like), like_line(form)))

    def test_nothing_is_changed(self):
        line, widths, standing, numbers = ["row", [2, 3]], [1, None, 4], [1, 2], [4, 5, 6]
        table = Table(line, widths, standing, 5)
        told_by(table, line)
        table.led(numbers)
        table.led_back(numbers)
        table.then(table)
        self.told([line, widths, standing, numbers], [["row", [2, 3]], [1, None, 4], [1, 2], [4, 5, 6]])

    def test_asking_changes_nothing(self):
        for line, widths, standing in some_cases(171, 40, 5, 9):
            table, other = Table(line, widths, standing, 6), Table(line, widths, standing, 6)
            held = told_by(table, line)
            self.told(told_by(table, line), held)
            self.told(told_by(other, line), held)
            self.yes(table == other)

    def test_beside_standings(self):
        for line, widths, standing in some_cases(172, 60, 6, 9):
            for way in WAYS:
                table = Table(line, widths, standing, 9)
                nought = (0,) * gate_count(line)
                counts = table.led(nought) if way == "forth" else table.led_back(nought)
                held = [had + counts[at] - counts[(at + 1) % len(counts)] for at, had in enumerate(standing)]
                self.told(tuple(held), beats(line, widths, standing, way, 9)[9])


def like_line(form):
    return (form, (2, 3))


if __name__ == "__main__":
    unittest.main()
