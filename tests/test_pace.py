import copy
import math
import random
import unittest
from fractions import Fraction

from forthback.far import counts
from forthback.lines import bare, full, lacking, turned, turned_line, turned_widths
from forthback.pace import best_ring, heights, pace, shows_pace, slow_round
from forthback.walks import cost, price
from helpers import BILLION, GREAT_RING, GREAT_ROW, ODD_THINGS, TRILLION, Told
from helpers import all_standings, cost_by_hand, exchanged, gate_count, short_cases, some_cases, steads


def pace_by_hand(line, widths, standing):
    form, rooms = line
    bounds = [Fraction(width) for width in widths if width is not None] + [Fraction(min(rooms), 2)]
    if form == "ring":
        bounds.append(Fraction(sum(standing), len(rooms)))
        bounds.append(Fraction(sum(rooms) - sum(standing), len(rooms)))
    told = min(bounds)
    return told.numerator, told.denominator


def least_round_by_hand(line, widths, standing):
    """The least price by steps of any round of at most as many steps as gates, which simple rounds all are."""
    many = gate_count(line)
    found = []
    for first in range(many):
        reached = {first: 0}
        for steps in range(1, many + 1):
            further = {}
            for gate, paid in reached.items():
                for other in range(many):
                    step = cost_by_hand(line, widths, standing, gate, other)
                    if step is not None:
                        further[other] = min(further.get(other, paid + step), paid + step)
            reached = further
            if first in reached:
                found.append(Fraction(reached[first], steps))
    return min(found)


def shown(line, widths, standing):
    return pace(line, widths, standing), slow_round(line, widths, standing), heights(line, widths, standing)


class Pace(Told):
    def test_the_least_width(self):
        self.told(pace(("row", (9, 9)), (None, 3, 4), (1, 2)), (3, 1))
        self.told(pace(("row", (9, 9)), (4, None, 3), (0, 0)), (3, 1))
        self.told(pace(("ring", (9, 9)), (4, 2), (5, 5)), (2, 1))
        self.told(pace(("row", (9,)), (0, None), (5,)), (0, 1))
        self.told(pace(("row", (9,)), (0, 0), (5,)), (0, 1))
        half = BILLION // 2
        self.told(pace(("ring", (BILLION, BILLION)), (half - 1, None), (half, half)), (half - 1, 1))

    def test_half_the_least_room(self):
        self.told(pace(("row", (9, 7, 8)), (None,) * 4, (1, 2, 3)), (7, 2))
        self.told(pace(("row", (9, 6, 8)), (None, 4, 4, 4), (0, 0, 0)), (3, 1))
        self.told(pace(("row", (1,)), (None, None), (0,)), (1, 2))
        self.told(pace(("row", (1,)), (1, 1), (1,)), (1, 2))
        self.told(pace(("ring", (7, 3, 8)), (None, 2, 2), (4, 2, 3)), (3, 2))
        self.told(pace(GREAT_ROW, (BILLION,) * 25, bare(GREAT_ROW)), (BILLION // 2, 1))
        self.told(pace(("row", (BILLION - 1,)), (BILLION, None), (5,)), (BILLION - 1, 2))

    def test_contents_by_bins(self):
        self.told(pace(("ring", (4, 4, 4)), (None,) * 3, (1, 2, 1)), (4, 3))
        self.told(pace(("ring", (4, 4, 4)), (None,) * 3, (1, 0, 2)), (1, 1))
        self.told(pace(("ring", (4, 4, 4, 4)), (2,) * 4, (0, 2, 0, 0)), (1, 2))
        self.told(pace(("ring", (9, 9)), (None, None), (3, 0)), (3, 2))
        self.told(pace(GREAT_RING, (None,) * 24, (1,) + (0,) * 23), (1, 24))

    def test_free_room_by_bins(self):
        self.told(pace(("ring", (4, 4, 4)), (None,) * 3, (4, 1, 3)), (4, 3))
        self.told(pace(("ring", (4, 4, 4)), (None,) * 3, (4, 4, 1)), (1, 1))
        self.told(pace(("ring", (4, 4, 4, 4)), (2,) * 4, (4, 2, 4, 4)), (1, 2))
        self.told(pace(("ring", (9, 9)), (None, None), (9, 6)), (3, 2))
        self.told(pace(GREAT_RING, (BILLION,) * 24, (BILLION - 1,) + (BILLION,) * 23), (1, 24))

    def test_contents_and_free_room_count_in_a_ring_alone(self):
        for standing in ((0, 0, 0), (4, 4, 4), (0, 1, 0)):
            self.told(pace(("row", (4, 4, 4)), (None,) * 4, standing), (2, 1))

    def test_rings_bare_and_full(self):
        for line in (("ring", (1, 1)), ("ring", (3, 2, 9)), GREAT_RING):
            for width in (None, 1, BILLION):
                self.told(pace(line, (width,) * len(line[1]), bare(line)), (0, 1))
                self.told(pace(line, (width,) * len(line[1]), full(line)), (0, 1))

    def test_beside_the_four_numbers(self):
        for line, widths, standing in some_cases(401, 600, 24, 30):
            self.told(pace(line, widths, standing), pace_by_hand(line, widths, standing))
        for line, widths, standing in some_cases(402, 300, 24, BILLION):
            self.told(pace(line, widths, standing), pace_by_hand(line, widths, standing))
        for bins in range(1, 25):
            for form in ("row", "ring")[:1 + (bins > 1)]:
                line = (form, tuple(range(3, 3 + bins)))
                for width in (None, 0, 1, BILLION):
                    widths = (width,) * gate_count(line)
                    standing = (1,) * bins
                    self.told(pace(line, widths, standing), pace_by_hand(line, widths, standing))

    def test_beside_all_rounds(self):
        for line, widths, standing in short_cases((0, 1, None)):
            self.assertEqual(Fraction(*pace(line, widths, standing)), least_round_by_hand(line, widths, standing))
        for line, widths, standing in some_cases(403, 60, 7, 9):
            self.assertEqual(Fraction(*pace(line, widths, standing)), least_round_by_hand(line, widths, standing))

    def test_counts_go_on_at_the_pace(self):
        for line, widths, standing in some_cases(404, 60, 12, BILLION):
            top, bottom = pace(line, widths, standing)
            bound = bottom * 3 * (len(standing) + 1) * max(line[1])
            for many in (1000, TRILLION, TRILLION + 1):
                for count in counts(line, widths, standing, "forth", many):
                    self.assertLessEqual(abs(bottom * count - top * many), bound)

    def test_holes_go_as_things_do(self):
        for line, widths, standing in some_cases(405, 100, 12, 50):
            about = turned_line(line), turned_widths(line, widths), turned(line, lacking(line, standing))
            self.told(pace(*about), pace(line, widths, standing))

    def test_handed_in(self):
        for line, widths, standing in some_cases(406, 20, 5, 5):
            self.handed(pace, line=line, widths=widths, standing=standing)


class Shown(Told):
    """slow_round and heights, of which it isn't promised which are told."""

    def check(self, line, widths, standing):
        (top, bottom), walk, levels = shown(line, widths, standing)
        self.assertIs(type(walk), list)
        self.assertGreaterEqual(len(walk), 2)
        self.assertEqual(walk[0], walk[-1])
        self.assertEqual(bottom * price(line, widths, standing, walk), top * (len(walk) - 1))
        self.assertEqual([type(level) for level in levels], [int] * gate_count(line))
        self.assertIs(type(levels), list)
        for gate, level in enumerate(levels):
            for other, further in enumerate(levels):
                step = cost(line, widths, standing, gate, other)
                if step is not None:
                    self.assertLessEqual(level, further + bottom * step - top)
        self.yes(shows_pace(line, widths, standing, ((top, bottom), walk, levels)))

    def test_of_short_lines(self):
        for line, widths, standing in short_cases((0, 1, None)):
            self.check(line, widths, standing)

    def test_of_rings_of_two(self):
        for rooms in ((1, 1), (1, 4), (3, 2)):
            line = ("ring", rooms)
            for standing in all_standings(line):
                for widths in ((None, None), (0, None), (1, 2), (None, 9)):
                    self.check(line, widths, standing)

    def test_of_lines_of_all_sizes(self):
        for line, widths, standing in some_cases(411, 200, 24, 30):
            self.check(line, widths, standing)
        for line, widths, standing in some_cases(412, 40, 24, BILLION):
            self.check(line, widths, standing)
        for line in (GREAT_ROW, GREAT_RING):
            for standing in (bare(line), full(line), (BILLION // 3,) * 24, (0,) * 12 + (BILLION,) * 12):
                for width in (None, 0, 1, BILLION):
                    self.check(line, (width,) * gate_count(line), standing)

    def test_a_round_of_one_staying(self):
        self.told(slow_round(("row", (9, 9)), (None, 3, 4), (1, 2)), [1, 1])
        self.told(slow_round(("ring", (9, 9)), (None, 3), (5, 5)), [1, 1])
        self.told(slow_round(("row", (9,)), (None, 0), (5,)), [1, 1])

    def test_told_again(self):
        for line, widths, standing in (
            (("row", (2, 3)), (None, 5, None), (1, 1)),
            (("row", (9, 9)), (None, 3, 4), (1, 2)),
            (("ring", (9, 9, 9)), (None,) * 3, (1, 0, 1)),
            (("ring", (9, 9, 9)), (None,) * 3, (9, 8, 9)),
        ):
            for ask in (slow_round, heights):
                first = ask(line, widths, standing)
                kept = list(first)
                first[:] = [7, "spoilt"]
                self.told(ask(line, widths, standing), kept)

    def test_handed_in(self):
        for line, widths, standing in some_cases(413, 20, 5, 5):
            self.handed(slow_round, line=line, widths=widths, standing=standing)
            self.handed(heights, line=line, widths=widths, standing=standing)


ROW = ("row", (2, 3)), (None, 5, None), (1, 1)
STAYING = ("row", (9, 9)), (None, 3, 4), (1, 2)
RING = ("ring", (9, 9, 9)), (None,) * 3, (2, 0, 2)
CASES = (ROW, STAYING, RING)


class ShowsPace(Told):
    def test_what_is_told(self):
        for case in CASES:
            self.yes(shows_pace(*case, shown(*case)))

    def test_other_rounds_of_that_price(self):
        fraction, walk, levels = shown(*ROW)
        self.told(fraction, (1, 1))
        for other in ([0, 1, 0], [1, 0, 1], [0, 1, 0, 1, 0]):
            self.yes(shows_pace(*ROW, (fraction, other, levels)), other)
        fraction, walk, levels = shown(*STAYING)
        self.yes(shows_pace(*STAYING, (fraction, [1] * 400, levels)))
        fraction, walk, levels = shown(*RING)
        self.told(fraction, (4, 3))
        for first in range(3):
            self.yes(shows_pace(*RING, (fraction, [first, (first - 1) % 3, (first - 2) % 3, first], levels)))
            # The other way about it costs the free room.
            self.no(shows_pace(*RING, (fraction, [first, (first + 1) % 3, (first + 2) % 3, first], levels)))

    def test_rounds_of_another_price(self):
        fraction, walk, levels = shown(*ROW)
        for other in ([1, 2, 1], [1, 1], [0, 1, 2, 1, 0], [0, 1, 0, 1, 1, 0]):
            self.no(shows_pace(*ROW, (fraction, other, levels)), other)

    def test_heights_all_higher_or_lower(self):
        for case in CASES:
            fraction, walk, levels = shown(*case)
            for more in (1, -1, 10 ** 40, -10 ** 40):
                self.yes(shows_pace(*case, (fraction, walk, [level + more for level in levels])))

    def test_heights_too_far_apart(self):
        for case in CASES:
            fraction, walk, levels = shown(*case)
            for at, level in enumerate(levels):
                for more in (10 ** 6, -10 ** 6, 10 ** 40):
                    self.no(shows_pace(*case, (fraction, walk, exchanged(levels, at, level + more))))

    def test_heights_at_the_very_edge(self):
        for case in CASES:
            line, widths, standing = case
            (top, bottom), walk, levels = shown(*case)
            many = gate_count(line)
            for at in range(many):
                steps = [(other, cost_by_hand(*case, at, other)) for other in range(many) if other != at]
                highest = min(levels[other] + bottom * step - top for other, step in steps if step is not None)
                self.yes(shows_pace(*case, ((top, bottom), walk, exchanged(levels, at, highest))))
                self.no(shows_pace(*case, ((top, bottom), walk, exchanged(levels, at, highest + 1))))

    def test_heights_too_few_or_too_many(self):
        for case in CASES:
            fraction, walk, levels = shown(*case)
            for other in ([], levels[:-1], levels[1:], levels + [levels[-1]], levels + levels, levels + [None]):
                self.no(shows_pace(*case, (fraction, walk, other)))

    def test_another_fraction(self):
        for case in CASES:
            (top, bottom), walk, levels = shown(*case)
            for other in (
                (top + 1, bottom), (top - 1, bottom), (-top, bottom), (top, bottom + 1), (0, 1), (1, 10 ** 9), (5, 7),
            ):
                self.no(shows_pace(*case, (other, walk, levels)), other)

    def test_not_in_lowest_terms_and_bottom_below_one(self):
        for case in CASES:
            (top, bottom), walk, levels = shown(*case)
            for times in (2, 3, 10 ** 30, -1, -2, 0):
                high = [level * times for level in levels] if times > 0 else levels
                self.no(shows_pace(*case, ((top * times, bottom * times), walk, high)), times)
            self.no(shows_pace(*case, ((top, 0), walk, levels)))
            self.no(shows_pace(*case, ((0, 0), walk, levels)))

    def test_a_pace_of_nought(self):
        case = ("row", (3, 3)), (None, 0, None), (1, 2)
        fraction, walk, levels = shown(*case)
        self.told(fraction, (0, 1))
        self.yes(shows_pace(*case, ((0, 1), [1, 1], levels)))
        for other in ((0, 2), (0, 0), (0, -1), (False, 1), (0, True)):
            self.no(shows_pace(*case, (other, [1, 1], levels)), other)
        # To go and come back costs as much as the bin has room for.
        self.no(shows_pace(*case, ((0, 1), [1, 0, 1], levels)))

    def test_walks_that_are_none(self):
        for case in CASES:
            fraction, walk, levels = shown(*case)
            many = gate_count(case[0])
            for other in (
                [], [0], [1], [0, 1], [1, 0], [0, 1, 2], [0, 2, 0], [0, 0], [2, 2], [many, many], [-1, -1],
                [0, many, 0], [0, -1, 0], ["0", "0"], [None, None], [0, None, 0], [[0], [0]],
            ):
                self.no(shows_pace(*case, (fraction, other, levels)), (case, other))

    def test_true_and_false_in_the_place_of_numbers(self):
        fraction, walk, levels = shown(*ROW)
        self.told(fraction, (1, 1))
        for other in ((True, 1), (1, True), (True, True)):
            self.no(shows_pace(*ROW, (other, walk, levels)))
        for other in ([False, True, False], [0, True, 0], [False, 1, 0], [0, 1, False]):
            self.no(shows_pace(*ROW, (fraction, other, levels)))
        flat = [level - min(levels) for level in levels]
        self.yes(shows_pace(*ROW, (fraction, walk, flat)))
        for at, level in enumerate(flat):
            if level in (0, 1):
                self.no(shows_pace(*ROW, (fraction, walk, exchanged(flat, at, bool(level)))))

    def test_lists_for_tuples_and_tuples_for_lists(self):
        for case in CASES:
            thing = shown(*case)
            found = 0
            for other in steads(thing):
                self.no(shows_pace(*case, other), other)
                found += 1
            self.assertEqual(found, 15)

    def test_too_few_and_too_many(self):
        for case in CASES:
            thing = shown(*case)
            for other in ((), thing[:1], thing[:2], thing + (0,), thing + ([],), (thing,), thing * 2, thing[::-1]):
                self.no(shows_pace(*case, other))

    def test_things_of_any_kind(self):
        for case in CASES:
            thing = shown(*case)
            for odd in ODD_THINGS:
                self.no(shows_pace(*case, odd), odd)
                for at in range(3):
                    self.no(shows_pace(*case, exchanged(thing, at, odd)), odd)
                for at in range(2):
                    if (odd, at) != (thing[0][at], at):
                        self.no(shows_pace(*case, (exchanged(thing[0], at, odd),) + thing[1:]), odd)
                if not isinstance(odd, int) or isinstance(odd, bool):
                    for at in range(len(thing[1])):
                        self.no(shows_pace(*case, (thing[0], exchanged(thing[1], at, odd), thing[2])), odd)
                    for at in range(len(thing[2])):
                        self.no(shows_pace(*case, thing[:2] + (exchanged(thing[2], at, odd),)), odd)

    def test_no_other_fraction_is_shown(self):
        chance = random.Random(421)
        for line, widths, standing in some_cases(422, 40, 4, 4):
            (top, bottom), walk, levels = shown(line, widths, standing)
            for _ in range(30):
                other = Fraction(chance.randint(0, 6), chance.randint(1, 4))
                if (other.numerator, other.denominator) != (top, bottom):
                    fraction = (other.numerator, other.denominator)
                    guess = [chance.randint(-9, 9) for _ in levels]
                    self.no(shows_pace(line, widths, standing, (fraction, walk, guess)))

    def test_handed_in(self):
        for line, widths, standing in some_cases(423, 20, 5, 5):
            thing = shown(line, widths, standing)
            self.handed(shows_pace, line=line, widths=widths, standing=standing, thing=thing)
            self.handed(shows_pace, line=line, widths=widths, standing=standing, thing=list(thing))
            kept = copy.deepcopy(thing)
            self.yes(shows_pace(list(line), list(widths), list(standing), thing))
            self.told(thing, kept)


def holding(rooms, many):
    told = []
    for room in rooms:
        told.append(min(room, many))
        many -= told[-1]
    return tuple(told)


def best_by_hand(rooms, widths):
    paces = [Fraction(*pace_by_hand(("ring", rooms), widths, holding(rooms, many))) for many in range(sum(rooms) + 1)]
    best = max(paces)
    found = [many for many, one in enumerate(paces) if one == best]
    return (best.numerator, best.denominator), (found[0], found[-1])


class BestRing(Told):
    def test_ordinary(self):
        self.told(best_ring((4, 4, 4), (None,) * 3), ((2, 1), (6, 6)))
        self.told(best_ring((4, 6, 9), (None,) * 3), ((2, 1), (6, 13)))
        self.told(best_ring((4, 6, 9), (None, 1, None)), ((1, 1), (3, 16)))
        self.told(best_ring((4, 6, 9), (None, 0, None)), ((0, 1), (0, 19)))
        self.told(best_ring((1, 1), (None, None)), ((1, 2), (1, 1)))
        self.told(best_ring((1, 1, 1), (None,) * 3), ((1, 3), (1, 2)))
        self.told(best_ring((3, 3, 3), (5,) * 3), ((4, 3), (4, 5)))
        self.told(best_ring((3, 4), (None, None)), ((3, 2), (3, 4)))
        self.told(best_ring((3, 3, 4), (None,) * 3), ((3, 2), (5, 5)))

    def test_great_ones(self):
        self.told(best_ring((BILLION,) * 24, (None,) * 24), ((BILLION // 2, 1), (12 * BILLION, 12 * BILLION)))
        self.told(best_ring((BILLION,) * 24, (BILLION,) * 24), ((BILLION // 2, 1), (12 * BILLION, 12 * BILLION)))
        self.told(best_ring((BILLION,) * 24, (1,) * 24), ((1, 1), (24, 24 * BILLION - 24)))
        self.told(best_ring((BILLION - 1,) * 23, (None,) * 23), (
            ((BILLION - 1) * 23 // 2, 23), ((BILLION - 1) * 23 // 2, (BILLION - 1) * 23 // 2 + 1),
        ))

    def test_beside_all_numbers(self):
        chance = random.Random(431)
        for bins in range(2, 25):
            for _ in range(8):
                least = chance.randint(1, 3)
                rooms = tuple(chance.choice((least, least, least + chance.randint(0, 4))) for _ in range(bins))
                for choice in ((None,), (0, 1), (1, 2, None), (3, BILLION)):
                    widths = tuple(chance.choice(choice) for _ in range(bins))
                    self.told(best_ring(rooms, widths), best_by_hand(rooms, widths))

    def test_beside_all_standings(self):
        for rooms in ((1, 1), (2, 3), (1, 1, 1), (3, 1, 2), (2, 2, 2, 2), (3, 3, 3)):
            for widths in ((None,) * len(rooms), (1,) * len(rooms), (2,) + (None,) * (len(rooms) - 1)):
                line = ("ring", rooms)
                paces = {standing: Fraction(*pace(line, widths, standing)) for standing in all_standings(line)}
                best = max(paces.values())
                held = [sum(standing) for standing, one in paces.items() if one == best]
                wanted = (best.numerator, best.denominator), (min(held), max(held))
                self.told(best_ring(rooms, widths), wanted)

    def test_in_lowest_terms(self):
        for line, widths, standing in some_cases(432, 200, 24, BILLION):
            if line[0] == "ring":
                (top, bottom), (least, most) = best_ring(line[1], widths)
                self.assertEqual(math.gcd(top, bottom), 1)
                self.told(pace(line, widths, holding(line[1], least)), (top, bottom))
                self.told(pace(line, widths, holding(line[1], most)), (top, bottom))
                if least > 0:
                    self.assertNotEqual(pace(line, widths, holding(line[1], least - 1)), (top, bottom))
                    self.assertNotEqual(pace(line, widths, holding(line[1], most + 1)), (top, bottom))

    def test_handed_in(self):
        for rooms, widths in (((1, 2), (None, 3)), ((4, 4, 4), (1, 2, None))):
            self.handed(best_ring, rooms=rooms, widths=widths)


if __name__ == "__main__":
    unittest.main()
