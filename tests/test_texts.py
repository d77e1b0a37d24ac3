import random
import unittest

from forthback.errors import BadWord
from forthback.lines import bare, full
from forthback.texts import line_in, line_text, turns_in, turns_text
from forthback.turns import so_often
from helpers import BILLION, GREAT_RING, GREAT_ROW, TRILLION, Told
from helpers import some_cases, some_turns

ROW_TEXT = "row ~ 3/4 0 1/6 12 2/2 1"
ROW = ("row", (4, 6, 2)), (None, 0, 12, 1), (3, 1, 2)
RING_TEXT = "ring 5 0/1 ~ 9/10"
RING = ("ring", (1, 10)), (5, None), (0, 9)
BAD_NUMBERS = (
    "", "00", "01", "007", "-1", "+1", "1.0", "1e3", "x", "1x", "1_0", "1,0", "~~", "~1", "#", "one", "None", "0x1",
    "12345678901", "99999999999999", "\u0661", "\u00b2", "\u0967", "\uff11", "1\u0661", "\t1", "1\n", "\n", "1\t",
)


class LineText(Told):
    def test_ordinary(self):
        self.told(line_text(*ROW), ROW_TEXT)
        self.told(line_text(*RING), RING_TEXT)
        self.told(line_text(("row", (1,)), (0, None), (0,)), "row 0 0/1 ~")
        self.told(line_text(("ring", (3, 3)), (None, None), (3, 0)), "ring ~ 3/3 ~ 0/3")

    def test_great_ones(self):
        words = " ".join(["1000000000 1000000000/1000000000"] * 24)
        self.told(line_text(GREAT_RING, (BILLION,) * 24, full(GREAT_RING)), f"ring {words}")
        self.told(line_text(GREAT_ROW, (BILLION,) * 25, full(GREAT_ROW)), f"row {words} 1000000000")
        self.told(line_text(GREAT_ROW, (None,) * 25, bare(GREAT_ROW)), "row" + " ~ 0/1000000000" * 24 + " ~")

    def test_handed_in(self):
        for case in (ROW, RING):
            self.handed(line_text, line=case[0], widths=case[1], standing=case[2])


class LineIn(Told):
    def bad(self, text, at):
        self.refused(BadWord, {"at": at}, line_in, text)

    def test_ordinary(self):
        self.told(line_in(ROW_TEXT), ROW)
        self.told(line_in(RING_TEXT), RING)
        self.told(line_in("row 0 0/1 ~"), (("row", (1,)), (0, None), (0,)))
        self.told(line_in(text="ring ~ 3/3 ~ 0/3"), (("ring", (3, 3)), (None, None), (3, 0)))

    def test_reads_what_it_wrote(self):
        for line, widths, standing in some_cases(801, 300, 24, BILLION):
            self.told(line_in(line_text(line, widths, standing)), (line, widths, standing))
        for line, widths, standing in some_cases(802, 300, 5, 12):
            self.told(line_in(line_text(line, widths, standing)), (line, widths, standing))

    def test_ten_figures_whatever_the_bounds(self):
        wanted = ("row", (9999999999,)), (9999999999, None), (9999999999,)
        self.told(line_in("row 9999999999 9999999999/9999999999 ~"), wanted)
        self.bad("row 10000000000 1/1 ~", 1)
        self.bad("row ~ 1/10000000000 ~", 2)
        self.bad("row ~ 10000000000/10000000000 ~", 2)
        self.bad("row ~ 1/1 10000000000", 3)
        many = "row" + " 1 1/1" * 40 + " 0"
        self.told(line_in(many), (("row", (1,) * 40), (1,) * 40 + (0,), (1,) * 40))

    def test_the_first_word(self):
        for word in ("", "rows", "Row", "ROW", "line", "1", "~", "rin", "ring\t", "\nrow", "row\n", "r o w"):
            self.bad(word, 0)
            self.bad(f"{word} ~ 3/4 ~ 1/6 ~", 0)
        self.bad(" row ~ 3/4 ~", 0)
        self.bad("  ", 0)

    def test_too_few_words(self):
        words = ROW_TEXT.split(" ")
        for many in range(1, len(words)):
            text = " ".join(words[:many])
            if many in (4, 6):
                line_in(text)
            else:
                self.bad(text, many)
        for text, many in (("ring", 1), ("ring 5", 2), ("ring 5 0/1", 3), ("ring 5 0/1 ~", 4)):
            self.bad(text, many)

    def test_too_many_words(self):
        # A row with a bin behind its last gate wants one gate more, a ring with a gate one bin more.
        self.bad(f"{ROW_TEXT} 3/4", 9)
        self.bad(f"{RING_TEXT} ~", 6)
        self.bad(f"{ROW_TEXT} 3", 8)
        self.bad(f"{ROW_TEXT} ~", 8)
        self.bad(f"{ROW_TEXT} ~ 3/4", 8)
        self.bad(f"{RING_TEXT} 3/4", 5)

    def test_empty_words(self):
        words = ROW_TEXT.split(" ")
        for at in range(len(words) + 1):
            self.bad(" ".join(words[:at] + [""] + words[at:]), at)
        self.bad("", 0)
        self.bad("row ", 1)
        self.bad(f"{RING_TEXT} ", 5)

    def test_wrong_widths(self):
        words = ROW_TEXT.split(" ")
        for at in (1, 3, 5, 7):
            for word in BAD_NUMBERS + ("1/2", "~/~", "row", "forth", "/"):
                self.bad(" ".join(words[:at] + [word] + words[at + 1:]), at)

    def test_wrong_bins(self):
        words = ROW_TEXT.split(" ")
        for at in (2, 4, 6):
            for word in (
                "0/0", "3/2", "1/0", "3", "~", "3/~", "~/3", "/", "/3", "3/", "3//4", "1/2/3", "1/2/", "/1/2", "1-2",
                "1\\2", "1 /2", "10000000000/2", "9999999999/9999999998",
            ):
                self.bad(" ".join(words[:at] + [word] + words[at + 1:]), at)
            for part in BAD_NUMBERS:
                self.bad(" ".join(words[:at] + [f"{part}/9"] + words[at + 1:]), at)
                self.bad(" ".join(words[:at] + [f"0/{part}"] + words[at + 1:]), at)

    def test_the_first_wrong_one_is_told(self):
        self.bad("row x y z", 1)
        self.bad("row 1 y z", 2)
        self.bad("row 1 1/2 z", 3)
        self.bad("lane 1 1/2 z", 0)
        self.bad("row 1 3/2 1 5/4 1", 2)
        # Too few as they are, the word that can't stand there goes ahead.
        self.bad("ring 1 1/2 x", 3)
        self.bad("ring x", 1)

    def test_of_any_text(self):
        chance = random.Random(803)
        for _ in range(3000):
            text = "".join(chance.choice("row ring 0123/~") for _ in range(chance.randint(0, 12)))
            text = chance.choice(("", "row ", "ring ")) + text
            try:
                told = line_in(text)
            except BadWord as bad:
                self.assertLessEqual(bad.at, len(text.split(" ")))
            else:
                self.told(line_text(*told), text)

    def test_what_is_told_is_the_askers_own(self):
        self.handed(line_in, text=ROW_TEXT)
        self.handed(line_in, text=RING_TEXT)


class TurnsText(Told):
    def test_ordinary(self):
        self.told(turns_text([("forth", 5), ("back", 12)]), "forth 5, back 12")
        self.told(turns_text([("back", 1)]), "back 1")
        self.told(turns_text([("forth", 1), ("forth", 1)]), "forth 1, forth 1")
        self.told(turns_text([]), "-")
        self.told(turns_text(()), "-")

    def test_great_ones(self):
        self.told(turns_text([("forth", TRILLION)] * 40), ", ".join(["forth 1000000000000"] * 40))
        told = so_often([("forth", 10 ** 12), ("back", 1)], 10 ** 12)
        self.told(turns_text(told), f"forth {10 ** 24 - 10 ** 12 + 1}, back 1")

    def test_handed_in(self):
        self.handed(turns_text, turns=[("forth", 5), ("back", 12)])
        self.handed(turns_text, turns=[])


class TurnsIn(Told):
    def bad(self, text, at):
        self.refused(BadWord, {"at": at}, turns_in, text)

    def test_ordinary(self):
        self.told(turns_in("forth 5, back 12"), [("forth", 5), ("back", 12)])
        self.told(turns_in("back 1"), [("back", 1)])
        self.told(turns_in(text="-"), [])

    def test_not_joined(self):
        turns = [("forth", 5), ("forth", 2), ("back", 1), ("back", 1)]
        self.told(turns_in("forth 5, forth 2, back 1, back 1"), turns)

    def test_reads_what_it_wrote(self):
        chance = random.Random(811)
        for many in range(41):
            turns = some_turns(chance, many, chance.choice((3, TRILLION)))
            self.told(turns_in(turns_text(turns)), turns)

    def test_thirteen_figures(self):
        self.told(turns_in("forth 9999999999999"), [("forth", 9999999999999)])
        self.bad("forth 10000000000000", 0)
        self.bad("back 1, forth 99999999999999", 1)

    def test_wrong_turns(self):
        for part in (
            "", " ", "forth", "forth ", "forth 0", "back 0", "forth 01", "forth -1", "forth +1", "forth  1", " forth 1",
            "forth 1 ", "forth 1 2", "forth 1,", ",forth 1", "Forth 1", "FORTH 1", "fort 1", "forth x", "forth ~",
            "forth1", "1 forth", "1", "~", "--", "forth 1;", "forth 1,back 1", "forth\t1", "forth 1\n", "\nforth 1",
            "forth \u0661", "forth \u00b2", "forth 1.0", "forth 1_0", "forth 10000000000000", "turn 1", ",", "-1",
        ):
            self.bad(part, 0)
            self.bad(f"{part}, forth 1", 0)
            self.bad(f"forth 2, back 1, {part}", 2)
            self.bad(f"forth 2, {part}, x", 1)
        self.bad("-, forth 1", 0)
        self.bad("forth 1, -", 1)
        self.bad("- ", 0)
        self.bad(" -", 0)

    def test_parted_by_comma_and_blank(self):
        self.bad("forth 1,  back 1", 1)
        self.bad("forth 1 , back 1", 0)
        self.bad("forth 1, , back 1", 1)
        self.bad("forth 1, back 1, ", 2)
        self.bad("forth 1, back 1,", 1)
        self.bad(", ", 0)

    def test_what_is_told_is_the_askers_own(self):
        self.handed(turns_in, text="forth 5, back 12")
        self.handed(turns_in, text="-")


class Refused(Told):
    def test_class(self):
        self.assertTrue(issubclass(BadWord, ValueError))


if __name__ == "__main__":
    unittest.main()
