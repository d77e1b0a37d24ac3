import itertools
import random
import unittest

from forthback.turns import (
    back_turns,
    beats_in,
    forgets,
    forgotten,
    is_forgotten,
    is_turns,
    joined,
    net,
    so_often,
)
from helpers import DEEP_LIST, DEEP_TUPLE, ODD_THINGS, TRILLION, WAYS, Told
from helpers import some_cases, some_turns, steads, turns_by_hand


def turns_of(numbers, first="forth"):
    """Turns of these numbers, each the other way than the one ahead of it."""
    return [(WAYS[(at + WAYS.index(first)) % 2], many) for at, many in enumerate(numbers)]


def numbers_of(turns):
    return [many for way, many in turns]


def random_histories(seed, many, most_turns, most):
    chance = random.Random(seed)
    return [some_turns(chance, chance.randint(0, most_turns), most) for _ in range(many)]


def joined_by_hand(turns):
    """One pair of neighbours at a time, from the left, until there is none."""
    turns = list(turns)
    for at in range(len(turns) - 1):
        if turns[at][0] == turns[at + 1][0]:
            return joined_by_hand(turns[:at] + [(turns[at][0], turns[at][1] + turns[at + 1][1])] + turns[at + 2:])
    return turns


def short_ones(turns):
    numbers = [many for way, many in turns]
    return [at for at in range(1, len(turns) - 1) if numbers[at - 1] >= numbers[at] <= numbers[at + 1]]


def gone_up(turns, at):
    (way, first), (_, midst), (_, last) = turns[at - 1:at + 2]
    return turns[:at - 1] + [(way, first + last - midst)] + turns[at + 2:]


def forgotten_in_order(turns, choose):
    turns = joined_by_hand(turns)
    while short_ones(turns):
        turns = gone_up(turns, choose(short_ones(turns)))
    return turns


def every_end(turns):
    """What is left by each order in which the turns may be chosen."""
    if not short_ones(turns):
        return [turns]
    ends = []
    for at in short_ones(turns):
        ends += [end for end in every_end(gone_up(turns, at)) if end not in ends]
    return ends


class IsTurns(Told):
    def test_ordinary(self):
        self.yes(is_turns([("forth", 1)]))
        self.yes(is_turns([("back", 7), ("forth", 3)]))
        self.yes(is_turns([("back", 7), ("back", 7), ("forth", 3)]))
        self.yes(is_turns(thing=[("forth", 2)]))

    def test_none(self):
        self.yes(is_turns([]))
        self.no(is_turns(()))

    def test_numbers_from_one_on(self):
        for at in range(3):
            for many in (1, TRILLION, TRILLION + 1, 10 ** 300):
                self.yes(is_turns(turns_with(at, ("back", many))))
            for many in (0, -1, -TRILLION, True, False, None, "1", "", (), (1,), [], [1]):
                self.no(is_turns(turns_with(at, ("back", many))), many)

    def test_ways(self):
        for at in range(3):
            for way in ("forth", "back"):
                self.yes(is_turns(turns_with(at, (way, 3))))
            for way in ("", "Forth", "BACK", "fort", "forths", " back", "row", None, True, 0, 1, (), [], ("back",)):
                self.no(is_turns(turns_with(at, (way, 3))), way)

    def test_pairs_alone(self):
        for at in range(3):
            for turn in ((), ("forth",), ("forth", 1, 1), ("forth", 1, None), (1, "forth"), "forth", 1, None, "ab"):
                self.no(is_turns(turns_with(at, turn)), turn)

    def test_lists_and_tuples_in_one_anothers_place(self):
        for turns in ([("forth", 1)], [("forth", 1), ("back", 2)], []):
            for stead in steads(turns):
                self.no(is_turns(stead), stead)

    def test_things_of_any_kind(self):
        for thing in ODD_THINGS:
            self.no(is_turns(thing), thing)
            self.told(is_turns([thing]), thing == ("forth", 1), thing)
            self.told(is_turns([("forth", thing)]), type(thing) is int and thing > 0, thing)
            self.told(is_turns([(thing, 1)]), thing in WAYS, thing)

    def test_without_bounds(self):
        self.yes(is_turns([("forth", 10 ** 40)] * 5000))
        self.no(is_turns([("forth", 10 ** 40)] * 5000 + [("forth", 0)]))

    def test_the_thing_is_unchanged(self):
        self.handed(is_turns, thing=[("forth", 2), ("back", 3)])
        self.handed(is_turns, thing=[["forth", 2], ("back", 3)])


def turns_with(at, turn):
    turns = [("forth", 2), ("back", 5), ("forth", 9)]
    turns[at] = turn
    return turns


class IsForgotten(Told):
    def test_ordinary(self):
        for numbers in ([], [1], [5, 5], [1, 2], [2, 1], [1, 2, 1], [1, 3, 3, 2], [1, 2, 3, 9, 9, 4], [9, 8, 7]):
            for first in WAYS:
                self.yes(is_forgotten(turns_of(numbers, first)))
        self.yes(is_forgotten(thing=[("back", 4)]))

    def test_not_so(self):
        for numbers in ([1, 1, 1], [2, 1, 2], [2, 2, 3], [3, 2, 2], [1, 4, 3, 3], [4, 4, 4, 1], [9, 8, 9, 10]):
            for first in WAYS:
                self.no(is_forgotten(turns_of(numbers, first)), numbers)

    def test_neighbours_of_one_way(self):
        self.no(is_forgotten([("forth", 1), ("forth", 2)]))
        self.no(is_forgotten([("back", 1), ("forth", 2), ("forth", 2)]))
        self.no(is_forgotten([("back", 5), ("back", 5), ("forth", 2)]))

    def test_of_no_turns(self):
        for thing in ODD_THINGS:
            self.no(is_forgotten(thing), thing)
        for turns in ([("forth", 1)], [("forth", 1), ("back", 2)], []):
            for stead in steads(turns):
                self.no(is_forgotten(stead), stead)
        for at in range(3):
            for many in (0, -1, True, False, None, "2", (2,), [2]):
                self.no(is_forgotten(turns_with(at, ("forth" if at != 1 else "back", many))), many)
            for way in ("", "Back", None, 0, True):
                self.no(is_forgotten(turns_with(at, (way, 5))), way)
            for turn in (("back",), ("back", 1, 1), ["back", 1], DEEP_LIST, DEEP_TUPLE):
                self.no(is_forgotten(turns_with(at, turn)), turn)

    def test_what_forgotten_tells(self):
        for turns in random_histories(61, 300, 40, 30):
            self.yes(is_forgotten(forgotten(turns)))
            self.told(is_forgotten(turns), forgotten(turns) == turns)

    def test_without_bounds(self):
        self.yes(is_forgotten(turns_of([10 ** 40 + at for at in range(3000)])))
        self.yes(is_forgotten(turns_of(range(1, 3000)) + turns_of(range(3000, 0, -1), "back")))
        self.no(is_forgotten(turns_of([10 ** 40 + at for at in range(3000)]) + [("forth", 10 ** 40)] * 2))
        self.no(is_forgotten(turns_of([7] * 3000)))

    def test_the_thing_is_unchanged(self):
        self.handed(is_forgotten, thing=[("forth", 2), ("back", 3)])
        self.handed(is_forgotten, thing=[("forth", 2), ("forth", 2), ("back", 3)])


class Joined(Told):
    def test_of_none(self):
        self.told(joined([]), [])
        self.told(joined(()), [])

    def test_ordinary(self):
        self.told(joined([("forth", 2)]), [("forth", 2)])
        self.told(joined([("forth", 2), ("back", 3)]), [("forth", 2), ("back", 3)])
        self.told(joined([("forth", 2), ("forth", 3)]), [("forth", 5)])
        self.told(joined([("back", 1), ("back", 1), ("back", 1)]), [("back", 3)])
        turns = [("forth", 1), ("back", 2), ("back", 3), ("back", 4), ("forth", 5), ("forth", 6), ("back", 7)]
        self.told(joined(turns), [("forth", 1), ("back", 9), ("forth", 11), ("back", 7)])
        self.told(joined(turns=turns[:3]), [("forth", 1), ("back", 5)])

    def test_by_hand(self):
        for turns in random_histories(62, 300, 12, 9):
            self.told(joined(turns), joined_by_hand(turns))
            self.told(joined(joined(turns)), joined(turns))

    def test_great_ones(self):
        self.told(joined([("forth", TRILLION)] * 40), [("forth", 40 * TRILLION)])
        self.told(joined([("forth", TRILLION), ("back", 1)] * 20), [("forth", TRILLION), ("back", 1)] * 20)

    def test_handed_in(self):
        for turns in random_histories(63, 30, 6, 9):
            self.handed(joined, turns=turns)


class BeatsInAndNet(Told):
    def test_of_none(self):
        self.told(beats_in([]), 0)
        self.told(net([]), 0)

    def test_ordinary(self):
        turns = [("forth", 5), ("back", 2), ("back", 9), ("forth", 1)]
        self.told(beats_in(turns), 17)
        self.told(net(turns), -5)
        self.told(beats_in(turns=[("back", 3)]), 3)
        self.told(net(turns=[("back", 3)]), -3)
        self.told(net([("forth", 3)]), 3)

    def test_great_ones(self):
        turns = [("forth", TRILLION), ("back", TRILLION - 1)] * 20
        self.told(beats_in(turns), 40 * TRILLION - 20)
        self.told(net(turns), 20)

    def test_beside_one_another(self):
        for turns in random_histories(64, 100, 12, 9):
            one_by_one = [way for way, many in turns for _ in range(many)]
            self.told(beats_in(turns), len(one_by_one))
            self.told(net(turns), one_by_one.count("forth") - one_by_one.count("back"))
            self.told(net(forgotten(turns)), net(turns))
            self.told(net(back_turns(turns)), -net(turns))

    def test_handed_in(self):
        for turns in random_histories(65, 20, 6, 9):
            self.handed(beats_in, turns=turns)
            self.handed(net, turns=turns)


class BackTurns(Told):
    def test_ordinary(self):
        self.told(back_turns([]), [])
        self.told(back_turns([("forth", 5)]), [("back", 5)])
        turns = [("forth", 5), ("back", 2), ("back", 9), ("forth", TRILLION)]
        self.told(back_turns(turns), [("back", TRILLION), ("forth", 9), ("forth", 2), ("back", 5)])
        self.told(back_turns(turns=[("back", 5), ("back", 6)]), [("forth", 6), ("forth", 5)])

    def test_twice_gives_the_first_back(self):
        for turns in random_histories(66, 50, 12, 9):
            self.told(back_turns(back_turns(turns)), turns)

    def test_handed_in(self):
        for turns in random_histories(67, 20, 6, 9):
            self.handed(back_turns, turns=turns)


class Forgotten(Told):
    def test_of_none(self):
        self.told(forgotten([]), [])
        self.told(forgotten(()), [])

    def test_joined_first(self):
        self.told(forgotten([("forth", 2), ("forth", 3)]), [("forth", 5)])
        self.told(forgotten([("forth", 2), ("back", 1), ("back", 1), ("forth", 2)]), [("forth", 2)])
        self.told(forgotten([("forth", 2), ("back", 1), ("back", 2), ("forth", 2)]), turns_of([2, 3, 2]))

    def test_one_in_the_midst(self):
        for first in WAYS:
            self.told(forgotten(turns_of([5, 2, 4], first)), [(first, 7)])
            self.told(forgotten(turns_of([5, 4, 4], first)), [(first, 5)])
            self.told(forgotten(turns_of([4, 4, 5], first)), [(first, 5)])
            self.told(forgotten(turns_of([4, 4, 4], first)), [(first, 4)])
            self.told(forgotten(turns_of([4, 5, 5], first)), turns_of([4, 5, 5], first))
            self.told(forgotten(turns_of([5, 5, 4], first)), turns_of([5, 5, 4], first))
            self.told(forgotten(turns_of([3, 5, 4], first)), turns_of([3, 5, 4], first))
            self.told(forgotten(turns_of([5, 4, 3], first)), turns_of([5, 4, 3], first))
            self.told(forgotten(turns_of([5, 5], first)), turns_of([5, 5], first))

    def test_one_behind_the_other(self):
        self.told(forgotten(turns_of([9, 3, 2, 3, 9])), [("forth", 14)])
        self.told(forgotten(turns_of([5, 3, 2, 1, 2, 3, 5])), [("forth", 5 - 3 + 2 - 1 + 2 - 3 + 5)])
        self.told(forgotten(turns_of([1, 6, 2, 5, 3])), turns_of([1, 9, 3]))
        self.told(forgotten(turns_of([2, 6, 6, 6, 2], "back")), turns_of([2, 6, 2], "back"))
        self.told(forgotten(turns=turns_of([7] * 40)), turns_of([7, 7]))
        self.told(forgotten(turns_of([7] * 39)), turns_of([7]))

    def test_the_two_greatest_may_be_alike(self):
        self.told(forgotten(turns_of([1, 8, 8, 2])), turns_of([1, 8, 8, 2]))
        self.told(forgotten(turns_of([1, 8, 3, 3, 8, 2])), turns_of([1, 8, 8, 2]))

    def test_every_order_of_short_ones(self):
        for many in range(1, 7):
            for numbers in itertools.product((1, 2, 3), repeat=many):
                turns = turns_of(numbers)
                self.told(every_end(turns), [forgotten(turns)])

    def test_any_order_of_long_ones(self):
        chance = random.Random(68)
        for turns in random_histories(69, 200, 40, 20) + random_histories(70, 50, 40, TRILLION):
            wanted = forgotten(turns)
            for choose in (min, max, chance.choice, chance.choice):
                self.told(forgotten_in_order(turns, choose), wanted)

    def test_pieces_forgotten_first(self):
        chance = random.Random(71)
        for turns in random_histories(72, 200, 40, 20):
            first, second = sorted((chance.randint(0, len(turns)), chance.randint(0, len(turns))))
            pieces = forgotten(turns[:first]) + forgotten(turns[first:second]) + forgotten(turns[second:])
            self.told(forgotten(pieces), forgotten(turns))

    def test_rises_then_falls(self):
        for turns in random_histories(73, 200, 40, 50) + random_histories(74, 50, 40, TRILLION):
            numbers = numbers_of(forgotten(turns))
            peak = numbers.index(max(numbers)) if numbers else 0
            for at in range(1, len(numbers)):
                if at <= peak:
                    self.assertLess(numbers[at - 1], numbers[at])
                elif at == peak + 1:
                    self.assertGreaterEqual(numbers[at - 1], numbers[at])
                else:
                    self.assertGreater(numbers[at - 1], numbers[at])

    def test_great_ones(self):
        self.told(forgotten(turns_of([TRILLION, TRILLION - 1, TRILLION])), [("forth", TRILLION + 1)])
        self.told(forgotten(turns_of([TRILLION, 1] * 20)), turns_of([20 * TRILLION - 19, 1]))
        rising = turns_of([TRILLION + at for at in range(40)])
        self.told(forgotten(rising), rising)

    def test_on_a_line(self):
        chance = random.Random(75)
        for line, widths, standing in some_cases(76, 300, 6, 7):
            turns = some_turns(chance, chance.randint(0, 9), 5)
            wanted = turns_by_hand(line, widths, standing, turns)
            self.told(turns_by_hand(line, widths, standing, joined(turns)), wanted)
            self.told(turns_by_hand(line, widths, standing, forgotten(turns)), wanted)

    def test_taken_back(self):
        for turns in random_histories(77, 100, 20, 9):
            self.told(forgotten(back_turns(turns)), back_turns(forgotten(turns)))

    def test_each_stead(self):
        turns = [("forth", 3), ("back", 1), ("forth", 2)]
        for stead in steads(turns):
            self.told(forgotten(stead), [("forth", 4)])

    def test_handed_in(self):
        for turns in random_histories(78, 30, 6, 4):
            self.handed(forgotten, turns=turns)


class SoOften(Told):
    def test_no_times_and_once(self):
        for turns in random_histories(81, 100, 20, 9):
            self.told(so_often(turns, 0), [])
            self.told(so_often(turns, 1), forgotten(turns))

    def test_of_none(self):
        for many in (0, 1, 2, TRILLION):
            self.told(so_often([], many), [])

    def test_ordinary(self):
        self.told(so_often([("forth", 3)], 5), [("forth", 15)])
        self.told(so_often([("forth", 3), ("back", 1)], 2), turns_of([5, 1]))
        self.told(so_often([("forth", 1), ("back", 3)], 3), turns_of([1, 7]))
        self.told(so_often([("forth", 4), ("back", 4)], 9), turns_of([4, 4]))
        self.told(so_often(turns=[("forth", 2), ("back", 5), ("forth", 2)], many=2), turns_of([2, 6, 2]))

    def test_told_one_behind_the_other(self):
        for turns in random_histories(82, 150, 12, 9):
            for many in (2, 3, 4, 5, 6, 7, 13, 32):
                self.told(so_often(turns, many), forgotten_in_order(turns * many, min))

    def test_a_great_many_times(self):
        self.told(so_often([("forth", 3), ("back", 1)], TRILLION), turns_of([2 * TRILLION + 1, 1]))
        self.told(so_often([("back", TRILLION)], TRILLION), [("back", 10 ** 24)])
        self.told(so_often([("forth", 1), ("back", 1)], TRILLION), turns_of([1, 1]))
        self.told(so_often([("forth", 1), ("back", 3)], TRILLION - 1), turns_of([1, 2 * TRILLION - 1]))

    def test_net_of_a_great_many_times(self):
        for turns in random_histories(83, 40, 40, TRILLION):
            told = so_often(turns, TRILLION)
            self.yes(is_forgotten(told))
            self.told(net(told), net(turns) * TRILLION)
            self.told(so_often(so_often(turns, 10 ** 6), 10 ** 6), told)
            self.told(forgotten(so_often(turns, 10 ** 11) + so_often(turns, TRILLION - 10 ** 11)), told)

    def test_each_stead_and_handed_in(self):
        for stead in steads([("forth", 3), ("back", 1)]):
            self.told(so_often(stead, 2), turns_of([5, 1]))
        for turns in random_histories(84, 20, 6, 9):
            for many in (0, 1, 6):
                self.handed(so_often, turns=turns, many=many)


class Forgets(Told):
    def test_of_none_and_few(self):
        self.told(forgets([]), [])
        self.told(forgets([("forth", 3)]), [])
        self.told(forgets(turns_of([3, 3])), [])
        self.told(forgets([("forth", 1)] * 9), [])

    def test_ordinary(self):
        self.told(forgets(turns_of([3, 2, 3])), [1])
        self.told(forgets(turns_of([3, 3, 4])), [1])
        self.told(forgets(turns_of([4, 3, 3])), [1])
        self.told(forgets(turns_of([3, 4, 4])), [])
        self.told(forgets(turns_of([3, 3, 3, 3])), [1, 2])
        self.told(forgets(turns_of([9, 1, 5, 2, 2, 7, 1])), [1, 3, 4])
        self.told(forgets(turns=turns_of([TRILLION + 1, TRILLION, TRILLION])), [1])

    def test_places_in_joined(self):
        self.told(forgets([("forth", 2), ("forth", 2), ("back", 3), ("forth", 1), ("forth", 2)]), [1])
        self.told(forgets([("forth", 4), ("back", 1), ("back", 4), ("forth", 4)]), [])

    def test_by_hand(self):
        for turns in random_histories(91, 300, 40, 6):
            self.told(forgets(turns), short_ones(joined_by_hand(turns)))
            self.told(forgets(forgotten(turns)), [])

    def test_handed_in(self):
        for turns in random_histories(92, 20, 6, 3):
            self.handed(forgets, turns=turns)


if __name__ == "__main__":
    unittest.main()
