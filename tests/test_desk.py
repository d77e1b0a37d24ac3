import random
import unittest

from forthback.been import depth, had
from forthback.desk import answers
from forthback.errors import BadRow, Barred, Full, Lacks, NoBin, NoGate, NoRow, Open
from forthback.far import counts, far, when
from forthback.lines import bare
from forthback.pace import pace
from forthback.rest import rest
from forthback.texts import line_text, turns_in, turns_text
from forthback.turns import forgotten
from forthback.who import who
from forthback.yard import Yard
from helpers import BILLION, GREAT_RING, GREAT_ROW, TRILLION, WAYS, Told
from helpers import gate_count, some_cases, some_turns

ROW = "row ~ 3/4 ~ 1/6 ~ 2/2 1"
ROW_PARTS = ("row", (4, 6, 2)), (None, None, None, 1), (3, 1, 2)
RING = "ring ~ 3/4 1 1/6 2 2/2"
RING_PARTS = ("ring", (4, 6, 2)), (None, 1, 2), (3, 1, 2)
SHUT = "row 0 3/4 ~ 1/6 1 0/2 0"
SHUT_PARTS = ("row", (4, 6, 2)), (0, None, 1, 0), (3, 1, 0)


def asked(first, *rows):
    return answers("\n".join((first,) + rows))


def by_blanks(numbers):
    return " ".join(str(number) for number in numbers)


class Rows(Told):
    """Each kind of row."""

    def test_of_none(self):
        self.told(answers(ROW), [])
        self.told(answers(text=RING), [])

    def test_forth_and_back(self):
        self.told(asked(ROW, "forth 1", "line"), ["1 3 0 1", "row ~ 1/4 ~ 4/6 ~ 1/2 1"])
        self.told(asked(ROW, "back 1", "line"), ["-3 -1 -2 0", "row ~ 1/4 ~ 2/6 ~ 0/2 1"])
        self.told(asked(ROW, "forth 0", "back 0", "undo", "undo", "undo"), [
            "0 0 0 0", "0 0 0 0", "done", "done", "nothing",
        ])
        self.told(asked(ROW, "forth 1000000000000"), [by_blanks(counts(*ROW_PARTS, "forth", TRILLION))])
        self.told(asked(RING, "back 9999999999999"), [by_blanks(counts(*RING_PARTS, "back", 9999999999999))])

    def test_put_and_take(self):
        self.told(asked(ROW, "put 0 1", "put 1 5", "take 2 2", "line"), ["4", "6", "0", "row ~ 4/4 ~ 6/6 ~ 0/2 1"])
        self.told(asked(ROW, "put 0 2", "put 0 9999999999999", "take 0 4"), ["refused Full"] * 2 + ["refused Lacks"])
        self.told(asked(ROW, "put 3 1", "take 3 1", "put 9999999999999 1", "line"), ["refused NoBin"] * 3 + [ROW])
        # The BIN goes ahead of what N asks.
        self.told(asked(ROW, "put 3 9999999999999", "take 3 9999999999999"), ["refused NoBin"] * 2)

    def test_widen(self):
        self.told(asked(ROW, "widen 0 5", "widen 0 ~", "widen 3 0", "widen 3 7"), ["~", "5", "1", "0"])
        self.told(asked(ROW, "widen 4 5", "widen 9999999999999 ~"), ["refused NoGate"] * 2)
        self.told(asked(RING, "widen 3 5", "widen 2 5"), ["refused NoGate", "2"])
        self.told(asked("row 1 0/1 1", "widen 0 9999999999999", "line", "widen 0 0"), [
            "1", "row 9999999999999 0/1 1", "9999999999999",
        ])

    def test_turn_and_undo(self):
        self.told(asked(ROW, "undo", "turn", "line", "undo", "line", "undo"), [
            "nothing", "done", "row 1 2/2 ~ 1/6 ~ 3/4 ~", "done", ROW, "nothing",
        ])
        self.told(asked("row 2 2/4 1 0/6 ~", "forth 1", "counts", "turn", "counts"), [
            "2 1 0", "2 1 0", "done", "0 -1 -2",
        ])

    def test_refused_rows_are_no_deeds(self):
        self.told(asked(ROW, "put 0 9", "take 9 1", "widen 9 1", "undo"), [
            "refused Full", "refused NoBin", "refused NoGate", "nothing",
        ])

    def test_line_and_counts(self):
        self.told(asked(ROW, "line", "counts"), [ROW, "0 0 0 0"])
        self.told(asked(RING, "line", "counts", "forth 1", "counts"), [RING, "0 0 0", "1 1 0", "1 1 0"])

    def test_far(self):
        for text, parts in ((ROW, ROW_PARTS), (RING, RING_PARTS)):
            for way in WAYS:
                for many in (0, 1, 7, TRILLION, 9999999999999):
                    self.told(asked(text, f"far {way} {many}", "line"), [by_blanks(far(*parts, way, many)), text])

    def test_when(self):
        for text, parts in ((ROW, ROW_PARTS), (RING, RING_PARTS), (SHUT, SHUT_PARTS)):
            for gate in range(gate_count(parts[0])):
                for many in (0, 1, 7, TRILLION):
                    told = when(*parts, gate, many)
                    self.told(asked(text, f"when {gate} {many}"), ["never" if told is None else str(told)])
        self.told(asked(SHUT, "when 0 0", "when 0 1", "when 1 3", "when 1 4"), ["0", "never", "1", "never"])
        # The GATE goes ahead of what N asks.
        self.told(asked(ROW, "when 4 0", "when 4 1", "when 9999999999999 5"), ["refused NoGate"] * 3)
        self.told(asked(RING, "when 3 0"), ["refused NoGate"])

    def test_been(self):
        self.told(asked("row ~ 2/2 ~ 0/2 ~", "been forth 1"), ["0 2"])
        self.told(asked("row ~ 2/2 ~ 2/2 ~", "been forth 1"), ["refused Barred"])
        self.told(asked("row ~ 2/2 ~ 2/2 ~", "been forth 0"), ["2 2"])
        self.told(asked("row ~ 1/5 3 1/5 ~", "been back 9999999999999"), ["refused Barred"])

    def test_depth(self):
        self.told(asked("row ~ 2/2 ~ 2/2 ~", "depth forth 9", "depth back 0"), ["0", "0"])
        for way in WAYS:
            self.told(asked(ROW, f"depth {way} 1000000000000"), [str(depth(*ROW_PARTS, way, TRILLION))])
        self.told(asked("row 0 2/2 0", "depth forth 9999999999999"), ["9999999999999"])

    def test_pace(self):
        self.told(asked(ROW, "pace"), ["1/1"])
        self.told(asked("row ~ 0/3 ~", "pace", "widen 0 0", "pace"), ["3/2", "~", "0/1"])
        self.told(asked("ring ~ 1/4 ~ 2/4 ~ 1/4", "pace", "take 1 1", "pace"), ["4/3", "1", "1/1"])

    def test_rest(self):
        self.told(asked(SHUT, "rest", "line"), ["0 2 2", SHUT])
        self.told(asked(ROW, "rest", "widen 0 0", "rest", "widen 3 0", "rest"), [
            "refused Open", "~", "refused Open", "1", "0 4 2",
        ])
        self.told(asked(RING, "rest"), ["refused Open"])

    def test_who(self):
        self.told(asked(ROW, "who 0 forth 0", "who 1 back 0", "who 2 forth 0"), ["3 5", "2 2", "0 1"])
        self.told(asked(SHUT, "who 2 forth 0", "who 2 forth 9", "who 0 forth 9"), ["-", "0 1", "-"])
        self.told(asked(ROW, "who 2 back 1", "who 2 back 2", "who 1 back 1"), ["-", "-1 -1", "0 1"])
        self.told(asked(ROW, "who 3 forth 0", "who 9999999999999 back 9"), ["refused NoBin"] * 2)
        self.told(asked(RING, "who 0 forth 0", "who 9 back 1"), ["refused NoRow"] * 2)

    def test_who_is_told_of_how_it_stands(self):
        self.told(asked(ROW, "forth 1", "who 0 forth 0"), ["1 3 0 1", "5 5"])

    def test_turns(self):
        self.told(asked(ROW, "turns forth 3, back 1, forth 5"), ["forth 7"])
        self.told(asked(ROW, "turns forth 3", "turns back 1, back 1", "turns forth 2, back 2"), [
            "forth 3", "back 2", "forth 2, back 2",
        ])
        self.told(asked(RING, "turns forth 9999999999999, forth 9999999999999", "undo"), [
            "forth 19999999999998", "nothing",
        ])

    def test_asks_are_no_deeds(self):
        self.told(asked(
            ROW, "line", "counts", "far forth 9", "when 0 9", "been forth 0", "depth back 9", "pace", "who 0 forth 9",
            "rest", "turns forth 1", "undo", "line",
        )[-2:], ["nothing", ROW])


class Beside(Told):
    """Rows beside what the functions tell."""

    def test_any_rows(self):
        chance = random.Random(1001)
        for line, widths, standing in some_cases(1002, 80, 6, 7):
            rows = [some_row(chance, line) for _ in range(20)]
            yard = Yard(line, widths, standing)
            wanted = [answer_by_hand(yard, row.split(" "), row) for row in rows]
            self.told(asked(line_text(line, widths, standing), *rows), wanted)

    def test_great_lines(self):
        for line in (GREAT_ROW, GREAT_RING):
            widths = (BILLION // 3,) * gate_count(line)
            rows = [
                "forth 1000000000000", "put 3 17", "back 999999999999", "far forth 1000000000000",
                "when 3 1000000000000", "depth forth 1000000000000", "pace", "who 5 forth 1000000000000", "turn",
                "rest", "line",
            ]
            yard = Yard(line, widths, bare(line))
            wanted = [answer_by_hand(yard, row.split(" "), row) for row in rows]
            self.told(asked(line_text(line, widths, bare(line)), *rows), wanted)

    def test_sixty_rows(self):
        rows = ["forth 1"] * 57 + ["line", "counts"]
        told = asked("row 1 0/9999 0", *rows)
        self.told(told, ["1 0"] * 57 + ["row 1 57/9999 0", "57 0"])
        self.told(len(told), 59)


def some_row(chance, line):
    way, many = chance.choice(WAYS), chance.choice((0, 1, 2, 3, 10, TRILLION))
    place, gate = chance.randint(0, len(line[1])), chance.randint(0, gate_count(line))
    return chance.choice((
        f"{way} {many}", f"{way} {many}", f"put {place} {many + 1}", f"take {place} {many + 1}",
        f"widen {gate} {chance.choice(('~', 0, 1, 5))}", "turn", "undo", "line", "counts", f"far {way} {many}",
        f"when {gate} {many}", f"been {way} {many}", f"depth {way} {many}", "pace", "rest", f"who {place} {way} {many}",
        f"turns {turns_text(some_turns(chance, chance.randint(1, 6), 9))}",
    ))


def answer_by_hand(yard, words, row):
    try:
        return told_by_hand(yard, words, row)
    except (NoBin, NoGate, Full, Lacks, Barred, Open, NoRow) as refusal:
        return f"refused {type(refusal).__name__}"


def told_by_hand(yard, words, row):
    word, numbers = words[0], [int(one) for one in words[1:] if one.isdigit()]
    parts = yard.line(), yard.widths(), yard.standing()
    if word in WAYS:
        return by_blanks(yard.go(word, numbers[0]))
    if word in ("put", "take"):
        return str(getattr(yard, word)(*numbers))
    if word == "widen":
        was = yard.widen(numbers[0], None if words[2] == "~" else numbers[1])
        return "~" if was is None else str(was)
    if word == "turn":
        return "done" if yard.turn() is None else "?"
    if word == "undo":
        return "done" if yard.undo() else "nothing"
    if word == "line":
        return line_text(*parts)
    if word == "counts":
        return by_blanks(yard.counts())
    if word in ("far", "been", "depth"):
        if word == "depth":
            return str(depth(*parts, words[1], numbers[0]))
        return by_blanks(far(*parts, words[1], numbers[0]) if word == "far" else had(*parts, words[1], numbers[0])[0])
    if word == "when":
        if numbers[0] >= gate_count(parts[0]):
            raise NoGate(numbers[0])
        told = when(*parts, *numbers)
        return "never" if told is None else str(told)
    if word == "pace":
        return "{}/{}".format(*pace(*parts))
    if word == "rest":
        return by_blanks(rest(*parts))
    if word == "who":
        if parts[0][0] == "row" and numbers[0] >= len(yard):
            raise NoBin(numbers[0])
        told = who(*parts, numbers[0], words[2], numbers[1])
        return "-" if told is None else by_blanks(told)
    return turns_text(forgotten(turns_in(row[len("turns "):])))


BAD_NUMBERS = (
    "", "01", "00", "-1", "+1", "1.0", "x", "~~", "10000000000000", "\u0661", "\u00b2", "1\t", "1/2", "1,", "None",
)
BAD_ROWS = (
    "", " ", "forth", "back", "forth 1 2", "forth ~", "Forth 1", "FORTH 1", "fort 1", "forth forth", "put", "put 0",
    "put 0 0", "take 0 0", "put 0 1 1", "take 1", "take", "put ~ 1", "put 0 ~", "widen", "widen 0", "widen 0 1 1",
    "widen ~ 1", "widen 0 forth", "turn 1", "turn ", " turn", "undo 1", "undo ", "line 1", "counts 1", "far",
    "far forth", "far 1 forth", "far forth 1 1", "far turn 1", "far Forth 1", "when", "when 0", "when 0 1 1",
    "when ~ 1", "been", "been forth", "been 1", "been 1 forth", "been x 1", "depth", "depth back", "depth 1",
    "depth x 1", "pace 1", "rest 1", "who", "who 0", "who 0 forth", "who forth 0 1", "who 0 1 forth", "who 0 x 1",
    "who 0 forth 1 1", "turns", "turns ", "turns -", "turns forth", "turns forth 0", "turns  forth 1",
    "turns forth 1,", "turns forth 1, ", "turns forth 1,back 1", "turns forth 1 , back 1", "turns forth 1,  back 1",
    "turns forth 1, -", "turns -, forth 1", "turns forth 01", "turns forth 10000000000000", "turns forth 1 ",
    "turns x 1", "turnsforth 1", "twin", "as_of 0", "marks", "deeds", "came", "do", "len", "go forth 1", "go",
    "standing", "widths", "raised forth 1", "had forth 1", "row 1 1/1 1", "lines", "1", "#", "-", "~", "done",
    "forth  1", "far  forth 1", "line ", "line\t", "\tline", "line\r", "Line", "row", "turn\x0b",
)


class Bad(Told):
    def bad(self, row, *texts):
        self.refused(BadRow, {"row": row}, answers, "\n".join(texts))

    def test_class(self):
        self.assertTrue(issubclass(BadRow, ValueError))

    def test_the_first_row(self):
        for text in (
            "", " ", "row", "ring 1 1/1", "row 1 1/1", "row 1 1/1 1 ", " row 1 1/1 1", "row 1  1/1 1", "row 1 2/1 1",
            "row 1 0/0 1", "row 10000000000 1/1 1", "row 01 1/1 1", "line", "forth 1", "turn", "rows 1 1/1 1", "-",
        ):
            self.bad(0, text)
            self.bad(0, text, "line")
            self.bad(0, text, "nonsense")
        self.bad(0, "", ROW)

    def test_rows_that_are_not_so_written(self):
        for row in BAD_ROWS:
            self.bad(1, ROW, row)
            self.bad(1, RING, row)
            self.bad(3, ROW, "line", "put 9 1", row, "turn")

    def test_wrong_numbers(self):
        for number in BAD_NUMBERS:
            for row in (
                f"forth {number}", f"back {number}", f"put {number} 1", f"put 0 {number}", f"take {number} 1",
                f"take 0 {number}", f"widen {number} 1", f"widen 0 {number}", f"far forth {number}", f"when {number} 1",
                f"when 0 {number}", f"been back {number}", f"depth forth {number}", f"who {number} forth 1",
                f"who 0 forth {number}", f"turns forth {number}",
            ):
                self.bad(2, ROW, "line", row)

    def test_a_bare_row_at_the_end(self):
        self.bad(1, ROW, "")
        self.bad(2, ROW, "line", "")
        self.bad(1, ROW, "", "line")
        self.bad(1, ROW, "", "")
        self.refused(BadRow, {"row": 1}, answers, f"{ROW}\n")
        self.refused(BadRow, {"row": 0}, answers, "\n")

    def test_the_first_one_is_told_ahead_of_all(self):
        self.bad(2, ROW, "put 99 1", "nonsense", "", "worse")
        self.bad(4, ROW, "forth 1", "take 9 1", "rest", "turns -")
        self.bad(1, RING, "who 0 forth", "who 0 forth 1")

    def test_rows_are_parted_by_line_feeds_alone(self):
        for sign in ("\r\n", "\r", "\x0b", "\x0c", "\u2028", "\x85"):
            with self.assertRaises(BadRow):
                answers(f"{ROW}{sign}line")
            self.bad(1, ROW, f"line{sign}line")

    def test_thirteen_figures(self):
        most = "9999999999999"
        self.told(asked("row 1 0/1 0", f"far forth {most}", f"put {most} {most}", f"when {most} {most}"), [
            "1", "refused NoBin", "refused NoGate",
        ])
        self.bad(0, f"row {most} 0/1 0", "line")


class Own(Told):
    def test_what_is_told_is_the_askers_own(self):
        for rows in ((), ("line",), ("forth 1", "turn", "counts", "who 0 back 3")):
            self.handed(answers, text="\n".join((ROW,) + rows))


if __name__ == "__main__":
    unittest.main()
