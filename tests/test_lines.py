import copy
import unittest

from forthback.lines import (
    bare,
    full,
    gates,
    is_line,
    is_standing,
    is_widths,
    lacking,
    turned,
    turned_line,
    turned_widths,
)
from helpers import BILLION, DEEP_LIST, DEEP_TUPLE, GREAT_RING, GREAT_ROW, LONG, ONE, PAIR, ROUND, TWO
from helpers import Told, as_lists, exchanged, steads

LINES = (ONE, TWO, LONG, PAIR, ("ring", (7, 1, 7)), ROUND, GREAT_ROW, GREAT_RING)

ODD_THINGS = (
    None, True, False, 0, 1, 2, -1, 10 ** 30, "", "row", "ring", "ro", "rowing", [], (), [[]], ((),), [()], ([],),
    (None,), [None], (None, None), ("row",), ("ring",), ("row", None), (None, (1,)), ("row", 1), ("row", "1"),
    ("row", "one"), ("ring", "two"), ((1, 2), "ring"), ((1,), "row"), ("row", ("1",)), ("row", ((1,),)),
    ("row", (None,)), ("row", ([],)), ("ring", (1, "2")), ("ring", (1, None)), ("ring", (1, (2,))),
    DEEP_LIST, DEEP_TUPLE, ("row", DEEP_TUPLE), (DEEP_LIST, (1,)), ("row", (DEEP_LIST,)),
)


def numbered_standing(line):
    """A standing, all of whose bins can be told apart as far as their rooms let them."""
    return tuple(at * room // len(line[1]) for at, room in enumerate(line[1]))


def some_standings(line):
    return [bare(line), full(line), numbered_standing(line)]


def some_widths(line):
    count = gates(line)
    return [
        tuple(range(count)),
        (None,) * count,
        (BILLION,) * count,
        tuple(None if gate % 2 else 10 + gate for gate in range(count)),
    ]


class IsLine(Told):
    def test_ordinary(self):
        for line in LINES:
            self.yes(is_line(line))
        self.yes(is_line(thing=TWO))

    def test_least_bins(self):
        self.yes(is_line(("row", (1,))))
        self.yes(is_line(("ring", (1, 1))))
        self.no(is_line(("row", ())))
        self.no(is_line(("ring", (1,))))
        self.no(is_line(("ring", ())))

    def test_rooms_begin_at_one(self):
        for form in ("row", "ring"):
            for at in range(3):
                for room in (0, -1, -BILLION):
                    self.no(is_line((form, exchanged((1, 2, 3), at, room))))
                self.yes(is_line((form, exchanged((4, 4, 4), at, 1))))

    def test_no_bounds(self):
        self.yes(is_line(("row", (BILLION + 1, 10 ** 40))))
        self.yes(is_line(("row", (1,) * 25)))
        self.yes(is_line(("ring", (2,) * 1000)))

    def test_true_and_false_are_no_numbers(self):
        for form in ("row", "ring"):
            for at in range(3):
                for room in (True, False):
                    self.no(is_line((form, exchanged((1, 2, 3), at, room))))
        self.no(is_line((True, (1, 2))))
        self.no(is_line((False, (1, 2))))
        self.no(is_line(("row", True)))

    def test_rooms_of_other_kinds(self):
        for at in range(3):
            for room in (None, "1", "", (), (1,), [], [1]):
                self.no(is_line(("ring", exchanged((1, 2, 3), at, room))), room)

    def test_lists_are_no_tuples(self):
        for line in (ONE, PAIR, ("row", (1, 2)), ("ring", (1, 2, 3))):
            for thing in steads(line):
                self.no(is_line(thing), thing)

    def test_forms(self):
        for form in ("", "Row", "RING", "rows", "rin", " row", "row ", "line", None, 0, 1, (), [], ("row",), ["ring"]):
            self.no(is_line((form, (1, 2))), form)

    def test_pairs_alone(self):
        self.no(is_line(("row",)))
        self.no(is_line(("row", (1, 2), (1, 2))))
        self.no(is_line(("row", (1, 2), None)))
        self.no(is_line(("row", 1, 2)))
        self.no(is_line(((1, 2), "row")))

    def test_odd_things(self):
        for thing in ODD_THINGS:
            self.no(is_line(thing), thing)


class IsWidths(Told):
    def test_ordinary(self):
        for line in LINES:
            for widths in some_widths(line):
                self.yes(is_widths(line, widths))
        self.yes(is_widths(line=TWO, thing=(0, None, 7)))
        self.yes(is_widths(thing=(0, 7), line=PAIR))

    def test_each_gate_from_nought_on_or_wide(self):
        for line in (TWO, ("ring", (3, 5, 7))):
            for at in range(3):
                for width in (0, 1, BILLION, 10 ** 40, None):
                    self.yes(is_widths(line, exchanged((4, 4, 4), at, width)))
                for width in (-1, -BILLION, True, False, "4", "", (), (4,), [], [4]):
                    self.no(is_widths(line, exchanged((4, 4, 4), at, width)), width)

    def test_as_many_as_gates(self):
        for line, count in ((ONE, 2), (TWO, 3), (LONG, 6), (PAIR, 2), (ROUND, 5)):
            for width in (0, 3, None):
                self.yes(is_widths(line, (width,) * count))
                self.no(is_widths(line, (width,) * (count - 1)))
                self.no(is_widths(line, (width,) * (count + 1)))
            self.no(is_widths(line, ()))

    def test_lists_are_no_tuples(self):
        for line in (TWO, PAIR, ROUND):
            for widths in some_widths(line):
                self.no(is_widths(line, list(widths)))

    def test_a_list_for_the_line(self):
        for line in (ONE, TWO, PAIR):
            for stead in steads(line):
                for widths in some_widths(line):
                    self.yes(is_widths(stead, widths))
                    self.no(is_widths(stead, list(widths)))
                    self.no(is_widths(stead, widths + (1,)))

    def test_odd_things(self):
        for line in (ONE, PAIR):
            for thing in ODD_THINGS:
                if thing != (None, None):
                    self.no(is_widths(line, thing), thing)


class IsStanding(Told):
    def test_ordinary(self):
        for line in LINES:
            for standing in some_standings(line):
                self.yes(is_standing(line, standing))
        self.yes(is_standing(line=TWO, thing=(3, 1)))
        self.yes(is_standing(thing=(0, 5), line=PAIR))

    def test_each_from_nought_to_its_own_room(self):
        for form in ("row", "ring"):
            line = (form, (3, 5, 7))
            for at, room in enumerate(line[1]):
                for held in (0, 1, room - 1, room):
                    self.yes(is_standing(line, exchanged((2, 2, 2), at, held)))
                for held in (-1, -BILLION, room + 1, 10 ** 40, True, False, None, "2", "", (), (2,), [], [2]):
                    self.no(is_standing(line, exchanged((2, 2, 2), at, held)), held)

    def test_beyond_the_bounds(self):
        line = ("row", (10 ** 40,) * 30)
        self.yes(is_standing(line, (10 ** 40,) * 30))
        self.no(is_standing(line, (10 ** 40,) * 29 + (10 ** 40 + 1,)))

    def test_as_many_as_bins(self):
        for line in (ONE, TWO, LONG, PAIR, ROUND):
            count = len(line[1])
            for held in (0, 1):
                self.yes(is_standing(line, (held,) * count))
                self.no(is_standing(line, (held,) * (count - 1)))
                self.no(is_standing(line, (held,) * (count + 1)))
            self.no(is_standing(line, ()))

    def test_lists_are_no_tuples(self):
        for line in (ONE, TWO, PAIR, ROUND):
            for standing in some_standings(line):
                self.no(is_standing(line, list(standing)))

    def test_a_list_for_the_line(self):
        for line in (ONE, TWO, PAIR):
            for stead in steads(line):
                for standing in some_standings(line):
                    self.yes(is_standing(stead, standing))
                    self.no(is_standing(stead, list(standing)))
                    self.no(is_standing(stead, standing + (1,)))
                self.no(is_standing(stead, (9,) * len(line[1])))

    def test_odd_things(self):
        for line in (ONE, PAIR):
            for thing in ODD_THINGS:
                self.no(is_standing(line, thing), thing)


class Gates(Told):
    def test_of_rows_one_more_than_bins(self):
        self.told(gates(ONE), 2)
        self.told(gates(TWO), 3)
        self.told(gates(LONG), 6)
        self.told(gates(GREAT_ROW), 25)

    def test_of_rings_as_many_as_bins(self):
        self.told(gates(PAIR), 2)
        self.told(gates(ROUND), 5)
        self.told(gates(GREAT_RING), 24)

    def test_by_name_and_of_lists(self):
        self.told(gates(line=TWO), 3)
        for line, count in ((ONE, 2), (TWO, 3), (PAIR, 2)):
            for stead in steads(line):
                self.told(gates(stead), count)


class BareAndFull(Told):
    def test_bare(self):
        self.told(bare(ONE), (0,))
        self.told(bare(TWO), (0, 0))
        self.told(bare(LONG), (0, 0, 0, 0, 0))
        self.told(bare(PAIR), (0, 0))
        self.told(bare(GREAT_RING), (0,) * 24)

    def test_full(self):
        self.told(full(ONE), (3,))
        self.told(full(TWO), (3, 5))
        self.told(full(LONG), (1, 2, 3, 4, 5))
        self.told(full(PAIR), (3, 5))
        self.told(full(GREAT_ROW), (BILLION,) * 24)

    def test_by_name_and_of_lists(self):
        self.told(bare(line=TWO), (0, 0))
        self.told(full(line=TWO), (3, 5))
        for line in (ONE, TWO, PAIR):
            for stead in steads(line):
                self.told(bare(stead), (0,) * len(line[1]))
                self.told(full(stead), line[1])

    def test_are_standings(self):
        for line in LINES:
            self.yes(is_standing(line, bare(line)))
            self.yes(is_standing(line, full(line)))


class Lacking(Told):
    def test_ordinary(self):
        self.told(lacking(ONE, (1,)), (2,))
        self.told(lacking(TWO, (3, 1)), (0, 4))
        self.told(lacking(PAIR, (0, 5)), (3, 0))
        self.told(lacking(LONG, (0, 1, 1, 3, 0)), (1, 1, 2, 1, 5))
        self.told(lacking(GREAT_ROW, (0, 1) * 12), (BILLION, BILLION - 1) * 12)

    def test_of_bare_and_full(self):
        for line in LINES:
            self.told(lacking(line, bare(line)), full(line))
            self.told(lacking(line, full(line)), bare(line))

    def test_twice_gives_the_first_back(self):
        for line in LINES:
            for standing in some_standings(line):
                self.told(lacking(line, lacking(line, standing)), standing)

    def test_by_name_and_of_lists(self):
        self.told(lacking(line=TWO, standing=(3, 1)), (0, 4))
        self.told(lacking(standing=(3, 1), line=TWO), (0, 4))
        for line in [TWO] + steads(TWO):
            self.told(lacking(line, [3, 1]), (0, 4))
            self.told(lacking(line, (3, 1)), (0, 4))


class TurnedLine(Told):
    def test_ordinary(self):
        self.told(turned_line(ONE), ("row", (3,)))
        self.told(turned_line(TWO), ("row", (5, 3)))
        self.told(turned_line(LONG), ("row", (5, 4, 3, 2, 1)))
        self.told(turned_line(PAIR), ("ring", (5, 3)))
        self.told(turned_line(ROUND), ("ring", (5, 4, 3, 2, 1)))
        self.told(turned_line(("ring", (BILLION, 1, 2))), ("ring", (2, 1, BILLION)))

    def test_twice_gives_the_first_back(self):
        for line in LINES:
            self.yes(is_line(turned_line(line)))
            self.told(turned_line(turned_line(line)), line)

    def test_by_name_and_of_lists(self):
        self.told(turned_line(line=TWO), ("row", (5, 3)))
        for line in (ONE, TWO, PAIR):
            for stead in steads(line):
                self.told(turned_line(stead), (line[0], line[1][::-1]))


class Turned(Told):
    def test_ordinary(self):
        self.told(turned(ONE, (2,)), (2,))
        self.told(turned(TWO, (3, 4)), (4, 3))
        self.told(turned(LONG, (0, 1, 2, 3, 4)), (4, 3, 2, 1, 0))
        self.told(turned(PAIR, (0, 5)), (5, 0))
        self.told(turned(ROUND, (0, 1, 2, 3, 4)), (4, 3, 2, 1, 0))

    def test_is_a_standing_of_the_turned_line(self):
        for line in LINES:
            for standing in some_standings(line):
                self.yes(is_standing(turned_line(line), turned(line, standing)))

    def test_twice_gives_the_first_back(self):
        for line in LINES:
            for standing in some_standings(line):
                self.told(turned(turned_line(line), turned(line, standing)), standing)

    def test_each_bin_keeps_what_it_lacks(self):
        for line in LINES:
            for standing in some_standings(line):
                about = lacking(turned_line(line), turned(line, standing))
                self.told(about, turned(line, lacking(line, standing)))

    def test_by_name_and_of_lists(self):
        self.told(turned(line=TWO, standing=(3, 4)), (4, 3))
        self.told(turned(standing=(3, 4), line=TWO), (4, 3))
        for line in [TWO] + steads(TWO):
            self.told(turned(line, [3, 4]), (4, 3))
            self.told(turned(line, (3, 4)), (4, 3))


class TurnedWidths(Told):
    def test_of_rows(self):
        self.told(turned_widths(ONE, (7, 0)), (0, 7))
        self.told(turned_widths(TWO, (7, None, 9)), (9, None, 7))
        self.told(turned_widths(LONG, (0, 1, 2, None, 4, BILLION)), (BILLION, 4, None, 2, 1, 0))

    def test_of_rings_gate_nought_stays(self):
        self.told(turned_widths(PAIR, (7, 9)), (7, 9))
        self.told(turned_widths(PAIR, (None, 0)), (None, 0))
        self.told(turned_widths(("ring", (1, 2, 3)), (7, 8, 9)), (7, 9, 8))
        self.told(turned_widths(ROUND, (None, 1, 2, BILLION, 4)), (None, 4, BILLION, 2, 1))

    def test_each_gate_stays_between_its_bins(self):
        for form, count in (("row", 1), ("row", 2), ("row", 6), ("ring", 3), ("ring", 4), ("ring", 7)):
            line = (form, tuple(range(1, count + 1)))
            widths = tuple(range(100, 100 + gates(line)))
            first = beside(line, widths)
            about = beside(turned_line(line), turned_widths(line, widths))
            self.assertEqual({width: (ahead, behind) for width, (behind, ahead) in about.items()}, first)

    def test_are_widths_of_the_turned_line(self):
        for line in LINES:
            for widths in some_widths(line):
                self.yes(is_widths(turned_line(line), turned_widths(line, widths)))

    def test_twice_gives_the_first_back(self):
        for line in LINES:
            for widths in some_widths(line):
                self.told(turned_widths(turned_line(line), turned_widths(line, widths)), widths)

    def test_by_name_and_of_lists(self):
        self.told(turned_widths(line=TWO, widths=(7, None, 9)), (9, None, 7))
        self.told(turned_widths(widths=(7, 8), line=PAIR), (7, 8))
        for line in [TWO] + steads(TWO):
            self.told(turned_widths(line, [7, None, 9]), (9, None, 7))
            self.told(turned_widths(line, (7, None, 9)), (9, None, 7))
        for line in steads(("ring", (1, 2, 3))):
            self.told(turned_widths(line, [7, 8, 9]), (7, 9, 8))
            self.told(turned_widths(line, (7, 8, 9)), (7, 9, 8))


def beside(line, widths):
    """Of each gate's width: the rooms of the bins behind and ahead of it, "well" of none."""
    form, rooms = line
    behind = rooms[-1:] + rooms if form == "ring" else ("well",) + rooms
    ahead = rooms if form == "ring" else rooms + ("well",)
    return {width: (behind[gate], ahead[gate]) for gate, width in enumerate(widths)}


def told_of(line, widths, standing):
    """What each function tells of these, but for those that ask of a thing."""
    of_line = [ask(line) for ask in (gates, bare, full, turned_line)]
    of_standing = [ask(line, standing) for ask in (lacking, turned)]
    return of_line + of_standing + [turned_widths(line, widths)]


def every_call(line, widths, standing):
    asked = [is_line(line), is_widths(line, widths), is_standing(line, standing)]
    return asked + told_of(line, widths, standing)


class HandedIn(Told):
    def test_nothing_is_changed(self):
        for form in ("row", "ring"):
            line = [form, [3, 5, 7]]
            widths = [1, None, 2] if form == "ring" else [1, None, 2, 0]
            standing = [3, 0, 4]
            held = copy.deepcopy((line, widths, standing))
            every_call(line, widths, standing)
            self.told((line, widths, standing), held)

    def test_nothing_is_kept(self):
        for form in ("row", "ring"):
            line = [form, [3, 5, 7]]
            widths = [1, None, 2] if form == "ring" else [1, None, 2, 0]
            standing = [3, 0, 4]
            told = every_call(line, widths, standing)
            held = copy.deepcopy(told)
            line[0] = "ring" if form == "row" else "row"
            line[1][0] = line[1][2] = 99
            widths[0] = widths[1] = 99
            standing[0] = standing[2] = 99
            self.told(told, held)

    def test_a_change_behind_is_seen_by_the_next_question(self):
        line = ["row", [3, 5]]
        self.told(full(line), (3, 5))
        line[1].append(7)
        self.told(full(line), (3, 5, 7))
        self.told(gates(line), 4)
        line[0] = "ring"
        self.told(gates(line), 3)

    def test_the_same_question_is_told_the_same(self):
        for line in LINES:
            for widths in some_widths(line):
                for standing in some_standings(line):
                    self.told(every_call(line, widths, standing), every_call(line, widths, standing))

    def test_lists_all_through_are_as_good(self):
        for line in LINES:
            for widths in some_widths(line):
                for standing in some_standings(line):
                    got = told_of(as_lists(line), list(widths), list(standing))
                    self.told(got, told_of(line, widths, standing))


if __name__ == "__main__":
    unittest.main()
