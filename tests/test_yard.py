import copy
import random
import unittest

from forthback.errors import BadDeed, Full, Lacks, NoBin, NoDeed, NoGate
from forthback.far import counts, far
from forthback.lines import bare, full
from forthback.tables import Table
from forthback.texts import line_text
from forthback.yard import Yard
from helpers import BILLION, GREAT_RING, GREAT_ROW, ODD_THINGS, ROUND, TRILLION, WAYS, Told
from helpers import as_lists, as_tuples, exchanged_kinds, gate_count, lists_in, run_by_hand, some_cases, some_number
from helpers import some_width, spoil

ROW = ("row", (4, 6, 2)), (None, None, None, 1), (3, 1, 2)
RING = ("ring", (4, 6, 2)), (None, 1, 2), (3, 1, 2)
REFUSALS = (NoBin, NoGate, Full, Lacks)


def told_by(yard):
    """All that a yard tells but its marks."""
    return (
        yard.line(), yard.widths(), yard.standing(), yard.counts(), yard.came(), yard.deeds(), len(yard), str(yard),
    )


class YardByHand:
    """What a yard must tell, made from its deeds anew each time."""

    def __init__(self, line, widths, standing):
        self.first = line, widths, standing
        self.stand = []

    def told(self):
        line, widths, standing = self.first
        gone, came = (0,) * gate_count(line), 0
        for word, *things in self.stand:
            if word == "go":
                way, many = things
                standing, more = run_by_hand(line, standing, [(way, widths)] * many)
                gone = tuple(one + other for one, other in zip(gone, more))
            elif word in ("put", "take"):
                place, many = things
                many = many if word == "put" else -many
                standing = standing[:place] + (standing[place] + many,) + standing[place + 1:]
                came += many
            elif word == "widen":
                gate, wide = things
                widths = widths[:gate] + (wide,) + widths[gate + 1:]
            else:
                line, widths, standing = (line[0], line[1][::-1]), about(line, widths), standing[::-1]
                gone = tuple(-count for count in about(line, gone))
        bins = len(standing)
        return line, widths, standing, gone, came, len(self.stand), bins, line_text(line, widths, standing)


def about(line, of_gates):
    """What each gate has, once the line is turned about: in a ring gate 0 stays gate 0."""
    turned = of_gates[::-1]
    return turned if line[0] == "row" else turned[-1:] + turned[:-1]


def some_deed(chance, line, most):
    """A deed, at times one that is refused."""
    word = chance.choice(("go", "go", "put", "take", "widen", "turn"))
    if word == "go":
        return word, chance.choice(WAYS), chance.choice((0, 1, 2, 5))
    if word in ("put", "take"):
        return word, chance.randint(-1, len(line[1])), chance.choice((1, 1, 2, most))
    if word == "widen":
        return word, chance.randint(-1, gate_count(line)), some_width(chance, 0, most)
    return (word,)


def handed_one_by_one(yard, deed):
    word, *things = deed
    return getattr(yard, word)(*things)


class Go(Told):
    def test_ordinary(self):
        yard = Yard(*ROW)
        self.told(yard.go("forth"), (1, 3, 0, 1))
        self.told(yard.standing(), (1, 4, 1))
        self.told(yard.go("forth", 2), counts(*ROW[:2], (1, 4, 1), "forth", 2))
        self.told(yard.standing(), far(*ROW, "forth", 3))
        self.told(yard.counts(), counts(*ROW, "forth", 3))
        self.told(yard.deeds(), 2)
        held = yard.standing()
        gone = yard.go("back", 2)
        self.told(gone, counts(*ROW[:2], held, "back", 2))
        self.told(yard.standing(), far(*ROW[:2], held, "back", 2))

    def test_of_no_beats(self):
        for case in (ROW, RING):
            yard = Yard(*case)
            for way in WAYS:
                self.told(yard.go(way, 0), (0,) * gate_count(case[0]))
            self.told(yard.standing(), case[2])
            self.told(yard.deeds(), 2)
            self.yes(yard.undo())
            self.yes(yard.undo())
            self.no(yard.undo())

    def test_a_great_many(self):
        for line, widths, standing in some_cases(901, 20, 12, BILLION):
            for way in WAYS:
                yard = Yard(line, widths, standing)
                gone = counts(line, widths, standing, way, TRILLION)
                self.told(yard.go(way, TRILLION), gone)
                self.told(yard.counts(), gone)
                self.told(yard.standing(), far(line, widths, standing, way, TRILLION))
                yard.go(way, TRILLION)
                self.told(yard.counts(), counts(line, widths, standing, way, 2 * TRILLION))

    def test_by_names(self):
        yard = Yard(standing=ROW[2], line=ROW[0], widths=ROW[1])
        self.told(yard.go(way="forth"), (1, 3, 0, 1))
        self.told(yard.go(many=1, way="back"), Yard(*ROW[:2], (1, 4, 1)).go("back"))


class PutAndTake(Told):
    def test_ordinary(self):
        yard = Yard(*ROW)
        self.told(yard.put(0, 1), 4)
        self.told(yard.put(1, 5), 6)
        self.told(yard.take(2, 2), 0)
        self.told(yard.take(0, 3), 1)
        self.told(yard.standing(), (1, 6, 0))
        self.told(yard.came(), 1)
        self.told(yard.counts(), (0, 0, 0, 0))
        self.told(yard.deeds(), 4)
        self.told(yard.put(many=1, place=2), 1)
        self.told(yard.take(many=1, place=2), 0)

    def test_refused(self):
        for case in (ROW, RING):
            yard = Yard(*case)
            for place in (-1, 3, 4, TRILLION, -TRILLION):
                for many in (1, 100, TRILLION):
                    self.refused(NoBin, {"place": place}, yard.put, place, many)
                    self.refused(NoBin, {"place": place}, yard.take, place, many)
            for place, held, room in ((0, 3, 4), (1, 1, 6), (2, 2, 2)):
                for more in (1, 2, TRILLION):
                    self.refused(Full, {"place": place}, yard.put, place, room - held + more)
                    self.refused(Lacks, {"place": place}, yard.take, place, held + more)
            self.told(told_by(yard), told_by(Yard(*case)))

    def test_great_ones(self):
        yard = Yard(GREAT_ROW, (None,) * 25, bare(GREAT_ROW))
        self.told(yard.put(23, BILLION), BILLION)
        self.refused(Full, {"place": 23}, yard.put, 23, 1)
        self.told(yard.take(23, BILLION), 0)
        self.refused(Lacks, {"place": 23}, yard.take, 23, 1)
        self.told(yard.came(), 0)

    def test_came_below_nought(self):
        yard = Yard(*ROW)
        yard.take(0, 3)
        yard.take(2, 1)
        self.told(yard.came(), -4)
        yard.turn()
        self.told(yard.came(), -4)
        yard.go("forth", 9)
        self.told(yard.came(), -4)


class Widen(Told):
    def test_ordinary(self):
        yard = Yard(*ROW)
        self.told(yard.widen(0, 5), None)
        self.told(yard.widen(3, None), 1)
        self.told(yard.widen(wide=0, gate=3), None)
        self.told(yard.widen(3, BILLION), 0)
        self.told(yard.widths(), (5, None, None, BILLION))
        self.told(yard.deeds(), 4)
        self.told((yard.counts(), yard.came(), yard.standing()), ((0,) * 4, 0, ROW[2]))

    def test_refused(self):
        for case, gates in ((ROW, 4), (RING, 3)):
            yard = Yard(*case)
            for gate in (-1, gates, gates + 1, TRILLION, -TRILLION):
                for wide in (None, 0, 1):
                    self.refused(NoGate, {"gate": gate}, yard.widen, gate, wide)
            self.told(told_by(yard), told_by(Yard(*case)))

    def test_beats_go_by_the_new_width(self):
        yard = Yard(("row", (9,)), (2, 0), (0,))
        self.told(yard.go("forth"), (2, 0))
        yard.widen(0, 3)
        self.told(yard.go("forth"), (3, 0))
        yard.widen(0, None)
        self.told(yard.go("forth", 3), (4, 0))


class Turn(Told):
    def test_of_a_row(self):
        yard = Yard(("row", (4, 6)), (2, 1, None), (4, 0))
        yard.take(0, 2)
        self.told(yard.go("forth", 1), (2, 1, 0))
        self.told(yard.turn(), None)
        self.told(yard.line(), ("row", (6, 4)))
        self.told(yard.widths(), (None, 1, 2))
        self.told(yard.standing(), (1, 3))
        self.told(yard.counts(), (0, -1, -2))
        self.told(yard.deeds(), 3)

    def test_of_a_ring(self):
        yard = Yard(*RING)
        gone = yard.go("forth", 1)
        standing = yard.standing()
        self.told(gone, (1, 1, 0))
        self.told(yard.turn(), None)
        self.told(yard.line(), ("ring", (2, 6, 4)))
        self.told(yard.widths(), (None, 2, 1))
        self.told(yard.standing(), standing[::-1])
        self.told(yard.counts(), (-1, 0, -1))

    def test_forth_is_back_then(self):
        for line, widths, standing in some_cases(911, 100, 8, 9):
            one, other = Yard(line, widths, standing), Yard(line, widths, standing)
            one.go("forth", 2)
            other.go("forth", 2)
            one.turn()
            one.go("forth", 3)
            one.turn()
            other.go("back", 3)
            self.told(told_by(one)[:5], told_by(other)[:5])

    def test_counts_keep_no_sign_of_nought(self):
        yard = Yard(*ROW)
        yard.turn()
        self.told(str(yard.counts()), "(0, 0, 0, 0)")


class Undo(Told):
    def test_each_deed(self):
        for case in (ROW, RING):
            for deed in (
                ("go", "forth", 3), ("go", "back", 0), ("put", 1, 2), ("take", 0, 1), ("widen", 1, 7), ("turn",),
            ):
                yard = Yard(*case)
                handed_one_by_one(yard, ("go", "forth", 1))
                before = told_by(yard)
                handed_one_by_one(yard, deed)
                self.assertNotEqual(told_by(yard), before)
                self.yes(yard.undo())
                self.told(told_by(yard), before)

    def test_none(self):
        yard = Yard(*ROW)
        self.no(yard.undo())
        yard.turn()
        self.yes(yard.undo())
        self.no(yard.undo())
        self.no(yard.undo())
        self.told(told_by(yard), told_by(Yard(*ROW)))

    def test_refused_ones_are_no_deeds(self):
        yard = Yard(*ROW)
        yard.put(0, 1)
        self.refused(Full, {"place": 0}, yard.put, 0, 1)
        self.refused(NoGate, {"gate": 9}, yard.widen, 9, 1)
        self.told(yard.deeds(), 1)
        self.yes(yard.undo())
        self.told(told_by(yard), told_by(Yard(*ROW)))


class Do(Told):
    def test_of_none(self):
        for whole in (True, False):
            for deeds in ([], ()):
                yard = Yard(*ROW)
                self.told(yard.do(deeds, whole=whole), [])
                self.told(yard.deeds(), 0)
                self.told(yard.marks(), [("in", 0), ("out", 0)])

    def test_of_some(self):
        deeds = [("go", "forth", 1), ("put", 0, 2), ("widen", 3, None), ("turn",), ("take", 2, 1), ("go", "back", 2)]
        one, other = Yard(*ROW), Yard(*ROW)
        told = one.do(deeds)
        self.told(told, [handed_one_by_one(other, deed) for deed in deeds])
        self.told(told[:5], [(1, 3, 0, 1), 3, 1, None, 2])
        self.told(told_by(one), told_by(other))
        self.told(one.marks(), [("in", 6), "go", "put", "widen", "turn", "take", "go", ("out", 6)])
        self.told(other.marks(), [])
        self.told(Yard(*ROW).do(tuple(deeds)), told)
        self.told(Yard(*ROW).do(deeds=deeds, whole=False), told)

    def test_each_is_undone_by_itself(self):
        yard = Yard(*ROW)
        seen = [told_by(yard)]
        deeds = [("go", "forth", 1), ("put", 0, 2), ("turn",), ("go", "back", 0)]
        for many in range(1, 5):
            other = Yard(*ROW)
            other.do(deeds[:many])
            seen.append(told_by(other))
        yard.do(deeds)
        self.told(yard.deeds(), 4)
        for many in (4, 3, 2, 1):
            self.told(told_by(yard), seen[many])
            self.yes(yard.undo())
        self.told(told_by(yard), seen[0])
        self.no(yard.undo())
        self.told(yard.marks(), [("in", 4), "go", "put", "turn", "go", ("out", 4)])

    def test_refused_amid_whole(self):
        for deed, made, fields in (
            (("put", 7, 1), NoBin, {"place": 7}), (("put", -1, 1), NoBin, {"place": -1}),
            (("take", 7, 1), NoBin, {"place": 7}), (("put", 0, 99), Full, {"place": 0}),
            (("take", 1, 99), Lacks, {"place": 1}), (("widen", 4, 1), NoGate, {"gate": 4}),
        ):
            for ahead in ([], [("go", "forth", 1)], [("turn",), ("widen", 0, 0), ("go", "back", 3)]):
                yard = Yard(*ROW)
                yard.put(0, 1)
                before = told_by(yard)
                words = [word for word, *things in ahead]
                deeds = ahead + [deed, ("turn",)]
                self.refused(made, fields, yard.do, deeds)
                self.told(told_by(yard), before)
                self.told(yard.marks(), [("in", len(deeds))] + words + [("out", len(ahead))])

    def test_refused_amid_not_whole(self):
        for deed, made in (
            (("put", 7, 1), NoBin), (("put", 0, 99), Full), (("take", 1, 99), Lacks), (("widen", 4, 1), NoGate),
        ):
            ahead = [("go", "forth", 1), ("turn",), ("widen", 0, 0)]
            yard, other = Yard(*ROW), Yard(*ROW)
            with self.assertRaises(made):
                yard.do(ahead + [deed, ("turn",)], whole=False)
            other.do(ahead, whole=False)
            self.told(told_by(yard), told_by(other))
            self.told(yard.deeds(), 3)
            self.told(yard.marks(), [("in", 5), "go", "turn", "widen", ("out", 3)])
            self.yes(yard.undo())
            self.told(yard.deeds(), 2)

    def test_whole_by_name_alone(self):
        with self.assertRaises(TypeError):
            Yard(*ROW).do([], False)

    def test_bad_deeds(self):
        bad = ODD_THINGS + (
            ("go",), ("go", "forth"), ("go", "forth", 1, 1), ("put",), ("put", 0), ("put", 0, 1, 1), ("take", 0),
            ("take", 0, 1, 1), ("widen",), ("widen", 0), ("widen", 0, 1, 1), ("turn", 0), ("turn", ()), ("undo",),
            ("do", []), ("do",), ("Go", "forth", 1), ("GO", "forth", 1), ("", 0, 1), ("line",), ("marks",),
            ("twin",), ("as_of", 0), ["go", "forth", 1], ["turn"], ["put", 0, 1], "turn", "go", ("go ", "forth", 1),
            (["go"], "forth", 1), (("go",), "forth", 1), ([], "forth", 1), (None, 0, 1), (1, 0, 1), (True,),
            ([["turn"]],), (["turn"],), (("turn",),), ((), 0, 1), ("forth", 1),
        )
        for whole in (True, False):
            for deed in bad:
                for at in (0, 1, 3):
                    yard = Yard(*ROW)
                    yard.put(0, 1)
                    before = told_by(yard)
                    deeds = [("turn",)] * at + [deed, ("turn",), ("nothing",)]
                    kept = copy.deepcopy(deeds)
                    with self.assertRaises(BadDeed) as held:
                        yard.do(deeds, whole=whole)
                    self.told(held.exception.at, at, deed)
                    self.told(told_by(yard), before)
                    self.told(yard.marks(), [])
                    self.told(deeds, kept)
        self.assertTrue(issubclass(BadDeed, ValueError))

    def test_bad_deed_goes_ahead_of_all(self):
        yard = Yard(*ROW)
        deeds = [("put", 99, 1), ("take", 0, 99), ("widen", 99, 0), ["turn"]]
        self.refused(BadDeed, {"at": 3}, yard.do, deeds)
        # Whatever these are: what a deed is handed isn't looked at by then.
        deeds = [("put", [], None), ("go", 1, "x"), ("widen", (), ()), ("take", True, []), ("turn",), ("turn", 1)]
        self.refused(BadDeed, {"at": 5}, yard.do, deeds)
        self.told(yard.marks(), [])
        self.told(told_by(yard), told_by(Yard(*ROW)))

    def test_twelve_deeds(self):
        yard = Yard(*ROW)
        self.told(yard.do([("turn",)] * 12), [None] * 12)
        self.told(yard.marks(), [("in", 12)] + ["turn"] * 12 + [("out", 12)])


class Marks(Told):
    def test_all_in_one_list(self):
        yard = Yard(*ROW)
        self.told(yard.marks(), [])
        yard.go("forth")
        yard.turn()
        self.told(yard.marks(), [])
        yard.do([("turn",), ("go", "back", 1)])
        yard.do([])
        with self.assertRaises(NoBin):
            yard.do([("turn",), ("put", 9, 1), ("turn",)])
        with self.assertRaises(BadDeed):
            yard.do([("turn",), ("fly",)])
        with self.assertRaises(Lacks):
            yard.do([("take", 0, 99)], whole=False)
        wanted = [
            ("in", 2), "turn", "go", ("out", 2), ("in", 0), ("out", 0), ("in", 3), "turn", ("out", 1), ("in", 1),
            ("out", 0),
        ]
        self.told(yard.marks(), wanted)
        while yard.undo():
            self.told(yard.marks(), wanted)
        self.told(yard.twin().marks(), [])
        self.told(yard.as_of(0).marks(), [])

    def test_they_are_the_askers_own(self):
        yard = Yard(*ROW)
        yard.do([("turn",)])
        spoil(yard.marks())
        self.told(yard.marks(), [("in", 1), "turn", ("out", 1)])


class AsOf(Told):
    def test_each(self):
        yard = Yard(*ROW)
        seen = [told_by(yard)]
        for deed in (("go", "forth", 1), ("put", 0, 2), ("turn",), ("widen", 0, None), ("take", 2, 1)):
            handed_one_by_one(yard, deed)
            seen.append(told_by(yard))
        for many, wanted in enumerate(seen):
            was = yard.as_of(many)
            self.assertIs(type(was), Yard)
            self.told(told_by(was), wanted)
            self.told(was.deeds(), many)
            for less in reversed(range(many)):
                self.yes(was.undo())
                self.told(told_by(was), seen[less])
            self.no(was.undo())
            self.told(told_by(yard), seen[-1])
        self.told(told_by(yard.as_of(many=2)), seen[2])

    def test_one_of_its_own(self):
        yard = Yard(*ROW)
        yard.do([("go", "forth", 1), ("turn",)])
        before = told_by(yard)
        for was in (yard.as_of(1), yard.as_of(2), yard.twin()):
            kept = told_by(was)
            was.do([("put", 1, 1)])
            was.go("back", 3)
            self.told(told_by(yard), before)
            self.told(yard.marks(), [("in", 2), "go", "turn", ("out", 2)])
            self.told(was.marks(), [("in", 1), "put", ("out", 1)])
            was.undo()
            was.undo()
            self.told(told_by(was), kept)
        twin = yard.twin()
        yard.undo()
        yard.undo()
        self.told(told_by(twin), before)
        yard.widen(0, 0)
        self.told(told_by(twin), before)

    def test_twin(self):
        yard = Yard(*RING)
        yard.do([("go", "forth", 1), ("turn",)])
        self.told(told_by(yard.twin()), told_by(yard))
        self.told(told_by(Yard(*RING).twin()), told_by(Yard(*RING)))
        self.told(told_by(yard.twin().as_of(0)), told_by(Yard(*RING)))

    def test_refused(self):
        yard = Yard(*ROW)
        for many in (-1, 1, 2, TRILLION, -TRILLION):
            self.refused(NoDeed, {"many": many}, yard.as_of, many)
        yard.do([("turn",), ("turn",)])
        for many in (-1, -2, 3, TRILLION, -TRILLION):
            self.refused(NoDeed, {"many": many}, yard.as_of, many)
        yard.undo()
        self.refused(NoDeed, {"many": 2}, yard.as_of, 2)
        self.assertTrue(issubclass(NoDeed, LookupError))
        self.told(yard.deeds(), 1)


class Asked(Told):
    def test_at_first(self):
        for case in (ROW, RING):
            yard = Yard(*case)
            self.told((yard.line(), yard.widths(), yard.standing()), case)
            self.told(yard.counts(), (0,) * gate_count(case[0]))
            self.told((yard.came(), yard.deeds(), yard.marks()), (0, 0, []))

    def test_length(self):
        self.told(len(Yard(*ROW)), 3)
        self.told(len(Yard(("row", (1,)), (0, 0), (0,))), 1)
        self.told(len(Yard(GREAT_RING, (0,) * 24, bare(GREAT_RING))), 24)

    def test_text(self):
        yard = Yard(*ROW)
        self.told(str(yard), "row ~ 3/4 ~ 1/6 ~ 2/2 1")
        yard.turn()
        self.told(str(yard), "row 1 2/2 ~ 1/6 ~ 3/4 ~")
        self.told(str(Yard(*RING)), "ring ~ 3/4 1 1/6 2 2/2")

    def test_like_ones(self):
        one, other = Yard(*ROW), Yard(*ROW)
        self.yes(one == other)
        self.no(one != other)
        one.put(0, 1)
        self.no(one == other)
        # Only what was done to come there is another: what came in, how many deeds, and marks don't count.
        other.do([("take", 0, 1), ("put", 0, 2)])
        other.widen(0, 9)
        other.widen(0, None)
        self.yes(one == other)
        self.yes(other == one)
        self.yes(one == one.twin())

    def test_unlike_ones(self):
        one = Yard(*ROW)
        for other in (
            Yard(*RING), Yard(("row", (4, 6, 3)), *ROW[1:]), Yard(ROW[0], (None, None, None, 2), ROW[2]),
            Yard(ROW[0], (0, None, None, 1), ROW[2]), Yard(*ROW[:2], (3, 1, 1)),
        ):
            self.no(one == other)
            self.yes(one != other)
        # Round a ring of which all have moved on by one all lies as before, but the counts.
        ring = ("ring", (1, 1)), (None, None), (1, 0)
        round_it = Yard(*ring)
        round_it.go("forth", 2)
        self.told(round_it.standing(), (1, 0))
        self.no(round_it == Yard(*ring))
        round_it.go("back", 2)
        self.yes(round_it == Yard(*ring))

    def test_things_of_other_kinds(self):
        yard = Yard(*ROW)
        for other in ODD_THINGS + (ROW, list(ROW), str(yard), told_by(yard), Table(*ROW, 0), object(), {}, 1.5):
            self.no(yard == other)
            self.no(other == yard)
            self.yes(yard != other)

    def test_what_is_told_is_of_the_kinds_written(self):
        for shape in (as_lists, as_tuples, exchanged_kinds):
            for case in (ROW, RING):
                yard, wanted = Yard(*shape(case)), Yard(*case)
                self.told(told_by(yard), told_by(wanted))
                self.yes(yard == wanted)
                for deed in (("go", "forth", 1), ("put", 0, 1), ("widen", 0, 2), ("turn",)):
                    self.told(handed_one_by_one(yard, deed), handed_one_by_one(wanted, deed))
                    self.told(told_by(yard), told_by(wanted))
                self.yes(yard == wanted)
                self.assertEqual(lists_in(told_by(yard)), [])

    def test_what_was_handed_in_is_not_kept(self):
        for case in (ROW, RING):
            given = as_lists(case)
            yard = Yard(*given)
            self.told(given, as_lists(case))
            spoil(given)
            self.told(told_by(yard), told_by(Yard(*case)))
            deeds = [("go", "forth", 1), ("turn",)]
            told = yard.do(deeds)
            self.told(deeds, [("go", "forth", 1), ("turn",)])
            deeds[:] = ["spoilt"]
            kept = told_by(yard)
            told[:] = ["spoilt"]
            self.told(told_by(yard), kept)
            self.told(yard.marks(), [("in", 2), "go", "turn", ("out", 2)])

    def test_asking_changes_nothing(self):
        yard = Yard(*ROW)
        yard.do([("go", "forth", 3), ("turn",)])
        first = told_by(yard), yard.marks(), told_by(yard.twin()), told_by(yard.as_of(1)), yard == Yard(*ROW)
        again = told_by(yard), yard.marks(), told_by(yard.twin()), told_by(yard.as_of(1)), yard == Yard(*ROW)
        self.told(again, first)


class AnyDeeds(Told):
    def go_through(self, chance, line, widths, standing, many):
        """Any deeds, refused and undone ones among them, beside what the ones that stand come to."""
        yard, by_hand = Yard(line, widths, standing), YardByHand(line, widths, standing)
        marks = []
        for _ in range(many):
            choice = chance.random()
            if choice < 0.2:
                self.told(yard.undo(), by_hand.stand != [])
                by_hand.stand = by_hand.stand[:-1]
            elif choice < 0.5:
                self.do_some(chance, yard, by_hand, marks)
            else:
                deed = some_deed(chance, line, max(line[1]))
                try:
                    handed_one_by_one(yard, deed)
                    by_hand.stand = by_hand.stand + [deed]
                except REFUSALS:
                    pass
            self.told(told_by(yard), by_hand.told())
            self.told(yard.marks(), marks)
        return yard, by_hand

    def do_some(self, chance, yard, by_hand, marks):
        deeds = [some_deed(chance, yard.line(), max(yard.line()[1])) for _ in range(chance.randint(0, 4))]
        whole = chance.random() < 0.5
        probe = yard.twin()
        done = []
        for deed in deeds:
            try:
                handed_one_by_one(probe, deed)
                done.append(deed)
            except REFUSALS:
                break
        marks += [("in", len(deeds))] + [deed[0] for deed in done] + [("out", len(done))]
        if done == deeds or not whole:
            by_hand.stand = by_hand.stand + done
        if done == deeds:
            yard.do(deeds, whole=whole)
        else:
            with self.assertRaises(REFUSALS):
                yard.do(deeds, whole=whole)

    def test_beside_hand(self):
        chance = random.Random(921)
        for line, widths, standing in some_cases(922, 60, 5, 6):
            self.go_through(chance, line, widths, standing, 25)

    def test_what_one_made_anew_tells(self):
        chance = random.Random(923)
        for line, widths, standing in some_cases(924, 40, 5, 6):
            yard, by_hand = self.go_through(chance, line, widths, standing, 15)
            anew = Yard(line, widths, standing)
            for deed in by_hand.stand:
                handed_one_by_one(anew, deed)
            self.told(told_by(yard), told_by(anew))
            self.yes(yard == anew)
            for many in range(yard.deeds() + 1):
                self.told(told_by(yard.as_of(many)), told_by(anew.as_of(many)))
            self.told(yard.go("forth", TRILLION), anew.go("forth", TRILLION))
            self.told(told_by(yard), told_by(anew))

    def test_a_hundred_and_sixty_deeds(self):
        chance = random.Random(925)
        yard, by_hand = Yard(ROUND, (1, 2, None, 1, 3), (1, 0, 2, 3, 0)), YardByHand(
            ROUND, (1, 2, None, 1, 3), (1, 0, 2, 3, 0),
        )
        while yard.deeds() < 160:
            deed = some_deed(chance, ROUND, 5)
            try:
                handed_one_by_one(yard, deed)
                by_hand.stand.append(deed)
            except REFUSALS:
                pass
        self.told(told_by(yard), by_hand.told())
        self.told(told_by(yard.twin()), by_hand.told())
        for many in reversed(range(160)):
            self.yes(yard.undo())
            by_hand.stand.pop()
            if many % 20 == 0:
                self.told(told_by(yard), by_hand.told())
        self.no(yard.undo())

    def test_of_great_lines(self):
        chance = random.Random(926)
        for line in (GREAT_ROW, GREAT_RING):
            standing = tuple(some_number(chance, 0, BILLION) for _ in range(24))
            widths = tuple(some_width(chance, 0, BILLION) for _ in range(gate_count(line)))
            yard = Yard(line, widths, standing)
            yard.do([("go", "forth", TRILLION), ("turn",), ("go", "back", TRILLION), ("turn",)])
            self.told(yard.counts(), counts(line, widths, standing, "forth", 2 * TRILLION))
            yard.undo()
            yard.undo()
            yard.undo()
            self.told(yard.standing(), far(line, widths, standing, "forth", TRILLION))
            yard.undo()
            self.told(yard.standing(), standing)
            held = sum(full(line)) - sum(standing)
            place = min(place for place in range(24) if standing[place] < BILLION)
            self.told(yard.put(place, BILLION - standing[place]), BILLION)
            self.told(sum(full(line)) - sum(yard.standing()), held - yard.came())


if __name__ == "__main__":
    unittest.main()
