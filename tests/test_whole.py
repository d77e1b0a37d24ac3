"""What holds of every function and class of the interface."""

import importlib
import inspect
import random
import unittest

from forthback.apart import apart, between, lesser
from forthback.been import had, is_behind
from forthback.errors import Barred
from forthback.far import far_turns
from forthback.lines import lacking, turned, turned_line, turned_widths
from forthback.pace import heights, pace, shows_pace, slow_round
from forthback.runs import led, taken_back
from forthback.tables import Table
from forthback.turns import forgotten
from forthback.walks import least_walk, price
from forthback.who import where
from forthback.yard import Yard
from helpers import BILLION, TRILLION, WAYS, Told
from helpers import as_lists, as_tuples, exchanged_kinds, lists_in, some_cases, some_turns, some_width, spoil
from test_package import INTERFACE

LINE = "line widths standing"
SIGNATURES = {
    "lines": {
        "is_line": "thing", "gates": "line", "is_widths": "line thing", "is_standing": "line thing", "bare": "line",
        "full": "line", "lacking": "line standing", "turned_line": "line", "turned": "line standing",
        "turned_widths": "line widths",
    },
    "beats": {
        "moved": f"{LINE} way", "beat": f"{LINE} way", "beats": f"{LINE} way many", "contrary": "way",
    },
    "runs": {"led": "line standing run", "taken_back": "run"},
    "turns": {
        "is_turns": "thing", "joined": "turns", "beats_in": "turns", "net": "turns", "back_turns": "turns",
        "forgotten": "turns", "is_forgotten": "thing", "so_often": "turns many", "forgets": "turns",
    },
    "walks": {
        "cost": f"{LINE} gate other", "price": f"{LINE} walk", "least_walk": f"{LINE} gate many",
        "shows_count": f"{LINE} gate many thing",
    },
    "far": {
        "counts": f"{LINE} way many", "far": f"{LINE} way many", "far_turns": f"{LINE} turns",
        "when": f"{LINE} gate many",
    },
    "been": {
        "is_behind": f"{LINE} way many", "had": f"{LINE} way many", "raised": f"{LINE} way many",
        "depth": f"{LINE} way most",
    },
    "pace": {
        "pace": LINE, "slow_round": LINE, "heights": LINE, "shows_pace": f"{LINE} thing", "best_ring": "rooms widths",
    },
    "apart": {
        "between": "line one other", "apart": "line one other", "is_further": "line one other",
        "lesser": "line one other", "greater": "line one other", "with_more": "line standing place",
    },
    "rest": {"rest": LINE, "rests_when": LINE, "rest_counts": LINE, "is_resting": LINE},
    "who": {
        "lane": "line standing", "where": f"{LINE} number way many", "who": f"{LINE} place way many",
        "goes_by": f"{LINE} number gate",
    },
    "texts": {"line_text": LINE, "line_in": "text", "turns_text": "turns", "turns_in": "text"},
    "desk": {"answers": "text"},
}
METHODS = (
    (Table, {
        "__init__": "self line widths standing many", "steps": "self", "price": "self gate other", "counts": "self",
        "then": "self other", "led": "self counts", "led_back": "self counts",
    }),
    (Yard, {
        "__init__": "self line widths standing", "put": "self place many", "take": "self place many",
        "widen": "self gate wide", "turn": "self", "undo": "self", "line": "self", "widths": "self",
        "standing": "self", "counts": "self", "came": "self", "deeds": "self", "as_of": "self many", "twin": "self",
        "marks": "self",
    }),
)
ROW = {
    "line": ("row", (4, 6, 2)), "widths": (0, None, 1, 0), "standing": (3, 1, 0), "way": "forth", "many": 2, "most": 5,
    "gate": 1, "other": 0, "place": 1, "number": 2, "rooms": (4, 6, 9), "walk": [1, 0, 1, 2],
    "turns": [("forth", 5), ("back", 2), ("forth", 3)], "run": [("forth", (1, 1, 1, 1)), ("back", (None, 0, 2, 1))],
}
RING = {**ROW, "line": ("ring", (4, 6, 2)), "widths": (3, None, 1), "run": [("back", (1, None, 1))]}
# What goes by another name, or is a text, in these alone.
OWN = {
    "is_widths": {"thing": (3, None, 1)}, "is_standing": {"thing": (3, 1, 0)}, "is_line": {"thing": ("row", (4,))},
    "is_turns": {"thing": [("forth", 5)]}, "is_forgotten": {"thing": [("forth", 5)]},
    "shows_count": {"thing": [1, 2, 1]}, "shows_pace": {"thing": ((1, 1), [2, 2], [0, 0, 0])},
    "best_ring": {"widths": (3, None, 1)}, "line_in": {"text": "row ~ 3/4 1"},
    "turns_in": {"text": "forth 3, back 2"}, "answers": {"text": "row ~ 3/4 1\nforth 3\nline\nwho 0 forth 2"},
    "had": {"many": 0},
}
OF_TWO = {"one": (3, 1, 0), "other": (2, 0, 2)}
OF_ROWS_ALONE = ("rest", "rests_when", "rest_counts", "is_resting", "lane", "where", "who", "goes_by")


def function_of(file, name):
    return getattr(importlib.import_module(f"forthback.{file}"), name)


def parameters_of(function):
    return " ".join(inspect.signature(function).parameters)


class Whole(Told):
    def test_each_file_is_listed(self):
        for file, names in INTERFACE.items():
            if file not in ("limits", "errors", "tables", "yard"):
                self.assertEqual(sorted(SIGNATURES[file]), sorted(names.split()))

    def test_arguments(self):
        for file, functions in SIGNATURES.items():
            for name, wanted in functions.items():
                function = function_of(file, name)
                self.assertEqual(function.__module__, f"forthback.{file}")
                self.assertEqual(parameters_of(function), wanted, f"{file}.{name}")
                for parameter in inspect.signature(function).parameters.values():
                    self.assertIs(parameter.kind, inspect.Parameter.POSITIONAL_OR_KEYWORD)
                    self.assertIs(parameter.default, inspect.Parameter.empty)

    def test_methods(self):
        for made, methods in METHODS:
            for name, wanted in methods.items():
                self.assertEqual(parameters_of(made.__dict__[name]), wanted, f"{made.__name__}.{name}")
        self.assertEqual(str(inspect.signature(Yard.go)), "(self, way, many=1)")
        self.assertEqual(str(inspect.signature(Yard.do)), "(self, deeds, *, whole=True)")

    def test_every_function_however_it_is_handed(self):
        for file, functions in SIGNATURES.items():
            for name, words in functions.items():
                for case in (ROW, RING):
                    if case is ROW or name not in OF_ROWS_ALONE:
                        two = OF_TWO if file == "apart" and " one other" in words else {}
                        held = {**case, **two, **OWN.get(name, {})}
                        if file == "apart" and case is RING:
                            held["other"] = (0, 2, 2)
                        with self.subTest(f"{file}.{name}"):
                            self.handed(function_of(file, name), **{word: held[word] for word in words.split()})

    def test_tables_however_they_are_handed(self):
        for case in (ROW, RING):
            parts = [case[word] for word in LINE.split()]
            wanted = Table(*parts, 5)
            numbers = list(range(len(case["widths"])))
            for shape in (as_lists, as_tuples, exchanged_kinds):
                given = shape(parts)
                table = Table(many=5, standing=given[2], widths=given[1], line=given[0])
                self.told(list(given), list(shape(parts)))
                spoil(given)
                self.yes(table == wanted)
                self.told(table.led(shape(numbers)), wanted.led(counts=numbers))
                self.told(table.led_back(shape(numbers)), wanted.led_back(counts=numbers))
                self.told(table.price(other=0, gate=1), wanted.price(1, 0))
                self.told(table.then(other=wanted).counts(), Table(*parts, 10).counts())

    def test_yards_however_they_are_handed(self):
        for case in (ROW, RING):
            parts = [case[word] for word in LINE.split()]
            for shape in (as_lists, as_tuples, exchanged_kinds):
                given = shape(parts)
                yard = Yard(standing=given[2], widths=given[1], line=given[0])
                self.told(list(given), list(shape(parts)))
                spoil(given)
                self.yes(yard == Yard(*parts))
                told = yard.go(many=2, way="forth"), yard.put(many=1, place=0), yard.widen(wide=None, gate=0)
                other = Yard(*parts)
                self.told(told, (other.go("forth", 2), other.put(0, 1), other.widen(0, None)))
                deeds = [("take", 0, 1), ("turn",)]
                self.told(yard.do(whole=False, deeds=tuple(deeds)), other.do(deeds))
                self.yes(yard == other)
                first, second = yard.marks(), yard.marks()
                self.told(first, second)
                self.assertIsNot(first, second)
                self.assertEqual(lists_in((yard.line(), yard.widths(), yard.standing(), yard.counts())), [])

    def test_where_nothing_is_said_to_be_told(self):
        self.told(Yard(*[ROW[word] for word in LINE.split()]).turn(), None)


def gone_by(line, widths, standing, *turns):
    """The standing and the counts of a yard behind these turns."""
    yard = Yard(line, widths, standing)
    yard.do([("go", way, many) for way, many in turns])
    return yard.standing(), yard.counts()


class AboveAll(Told):
    """What is promised above all, by all that the program has."""

    def test_a_there_back_and_there_again(self):
        chance = random.Random(1101)
        for line, widths, standing in some_cases(1102, 40, 8, BILLION):
            for way, other in (WAYS, WAYS[::-1]):
                for many in (1, 2, TRILLION):
                    turns = (way, many), (other, many), (way, many)
                    self.told(gone_by(line, widths, standing, *turns), gone_by(line, widths, standing, turns[0]))
                run = [(way, tuple(some_width(chance, 0, BILLION) for _ in widths)) for _ in range(20)]
                self.told(led(line, standing, run + taken_back(run) + run), led(line, standing, run))

    def test_b_what_is_forgotten(self):
        chance = random.Random(1103)
        for line, widths, standing in some_cases(1104, 30, 6, 50):
            turns = some_turns(chance, 12, 30)
            left = forgotten(turns)
            self.told(gone_by(line, widths, standing, *turns), gone_by(line, widths, standing, *left))
            self.told(far_turns(line, widths, standing, turns), gone_by(line, widths, standing, *left))
            lengths = [many for way, many in left]
            top = lengths.index(max(lengths))
            self.assertEqual(lengths[:top + 1], sorted(set(lengths[:top + 1])))
            self.assertEqual(lengths[top + 1:], sorted(set(lengths[top + 1:]), reverse=True))

    def test_c_what_must_have_been(self):
        for line, widths, standing in some_cases(1105, 60, 5, 6):
            for way, other in (WAYS, WAYS[::-1]):
                for many in (1, 3, TRILLION):
                    held, gone = gone_by(line, widths, standing, (other, many), (way, many))
                    self.told(is_behind(line, widths, standing, way, many), held == standing)
                    if held == standing:
                        first, counts = had(line, widths, standing, way, many)
                        self.told(gone_by(line, widths, first, (way, many)), (standing, counts))
                    else:
                        gate = [at for at, count in enumerate(gone) if count != 0][0]
                        self.refused(Barred, {"gate": gate}, had, line, widths, standing, way, many)

    def test_d_counts_are_least_prices(self):
        for line, widths, standing in some_cases(1106, 40, 8, 50):
            held, gone = gone_by(line, widths, standing, ("forth", 30))
            self.told(Table(line, widths, standing, 30).counts(), gone)
            for gate, count in enumerate(gone):
                cheap, walk = least_walk(line, widths, standing, gate, 30)
                self.told((cheap, price(line, widths, standing, walk)), (count, count))

    def test_e_the_pace(self):
        for line, widths, standing in some_cases(1107, 40, 8, BILLION):
            parts = line, widths, standing
            self.yes(shows_pace(*parts, (pace(*parts), slow_round(*parts), heights(*parts))))
            # Wherever it goes, the line keeps its pace.
            held, gone = gone_by(*parts, ("forth", TRILLION), ("back", 12345))
            self.told(pace(line, widths, held), pace(*parts))

    def test_f_never_further_apart(self):
        for line, widths, standing in some_cases(1108, 40, 8, BILLION):
            other, gone = gone_by(line, widths, standing, ("back", 5), ("forth", 2))
            for turn in (("forth", 1), ("back", 7), ("forth", TRILLION)):
                later = [gone_by(line, widths, held, turn)[0] for held in (standing, other)]
                self.assertLessEqual(apart(line, *later), apart(line, standing, other))
            low = lesser(line, standing, other)
            self.yes(all(count <= 0 for count in between(line, standing, low)))

    def test_g_holes_go_as_things_do(self):
        for line, widths, standing in some_cases(1109, 40, 8, BILLION):
            holes = turned_line(line), turned_widths(line, widths), turned(line, lacking(line, standing))
            for way in WAYS:
                held, gone = gone_by(line, widths, standing, (way, TRILLION))
                wanted = turned(line, lacking(line, held)), turned_widths(line, gone)
                self.told(gone_by(*holes, (way, TRILLION)), wanted)

    def test_h_nobody_passes_anybody(self):
        for line, widths, standing in some_cases(1110, 40, 6, 20):
            if line[0] == "row":
                for way in WAYS:
                    held, gone = gone_by(line, widths, standing, (way, 9))
                    numbers = range(-30, sum(standing) + 30)
                    places = [where(line, widths, standing, number, way, 9) for number in numbers]
                    self.assertEqual(places, sorted(places, reverse=True))
                    for place, many in enumerate(held):
                        self.assertLessEqual(places.count(place), many)

    def test_i_a_yard_made_anew(self):
        for line, widths, standing in some_cases(1111, 40, 6, 20):
            yard, anew = Yard(line, widths, standing), Yard(line, widths, standing)
            yard.do([("go", "forth", TRILLION), ("turn",), ("go", "back", 3)])
            for _ in range(2):
                yard.undo()
            yard.go("back", 5)
            anew.go("forth", TRILLION)
            anew.go("back", 5)
            self.yes(yard == anew)
            self.told((yard.deeds(), str(yard), yard.counts()), (anew.deeds(), str(anew), anew.counts()))


if __name__ == "__main__":
    unittest.main()
