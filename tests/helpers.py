"""What several tests need: how told things are compared, lines to ask about, and beats gone through by hand."""

import copy
import itertools
import random
import unittest

BILLION = 10 ** 9
TRILLION = 10 ** 12
WAYS = ("forth", "back")


# How told things are compared.

def as_lists(value):
    return [as_lists(one) for one in value] if isinstance(value, (list, tuple)) else value


def as_tuples(value):
    return tuple(as_tuples(one) for one in value) if isinstance(value, (list, tuple)) else value


def exchanged_kinds(value):
    if not isinstance(value, (list, tuple)):
        return value
    made = list if isinstance(value, tuple) else tuple
    return made([exchanged_kinds(one) for one in value])


def steads(value):
    """Each way to put lists and tuples in one another's place, and at least one."""
    return [way for way in all_steads(value) if kinds(way) != kinds(value)]


def all_steads(value):
    if not isinstance(value, (list, tuple)):
        return [value]
    parts = list(itertools.product(*[all_steads(one) for one in value]))
    return [tuple(part) for part in parts] + [list(part) for part in parts]


def kinds(value):
    if not isinstance(value, (list, tuple)):
        return type(value)
    return (type(value), [kinds(one) for one in value])


def exchanged(values, at, value):
    return values[:at] + type(values)([value]) + values[at + 1:]


def lists_in(value):
    if not isinstance(value, (list, tuple)):
        return []
    return ([value] if isinstance(value, list) else []) + [one for part in value for one in lists_in(part)]


def spoil(value):
    for found in lists_in(value):
        found[:] = ["spoilt", [7]]


class Told(unittest.TestCase):
    """How what is told is compared: 1 == True and [1] != (1,) are both too weak."""

    def told(self, got, wanted, words=None):
        self.assertEqual(got, wanted, words)
        self.assertEqual(kinds(got), kinds(wanted), words)

    def yes(self, got, words=None):
        self.assertIs(got, True, words)

    def no(self, got, words=None):
        self.assertIs(got, False, words)

    def refused(self, made, fields, ask, *arguments):
        """That it is refused by this very class, with these fields."""
        with self.assertRaises(made) as held:
            ask(*arguments)
        self.assertIs(type(held.exception), made)
        for name, value in fields.items():
            self.told(getattr(held.exception, name), value)

    def handed(self, ask, **named):
        """All that holds of each question, whatever it asks; named are its arguments, in their order."""
        wanted = ask(**copy.deepcopy(named))
        self.told(ask(*copy.deepcopy(list(named.values()))), wanted)
        self.told(ask(**dict(reversed(list(named.items())))), wanted)
        for shape in (as_lists, as_tuples, exchanged_kinds, copy.deepcopy):
            given = [copy.deepcopy(value) if name == "thing" else shape(value) for name, value in named.items()]
            held = copy.deepcopy(given)
            first, second = ask(*given), ask(*given)
            self.told(first, wanted)
            self.told(second, wanted)
            self.told(given, held)
            found = [id(one) for one in lists_in(first) + lists_in(second) + lists_in(given)]
            self.assertEqual(len(found), len(set(found)), "no two told lists are one and the same")
            again = copy.deepcopy(held)
            spoil(given)
            self.told(first, wanted)
            spoil(first)
            self.told(second, wanted)
            self.told(ask(*again), wanted)


# Lines to ask about.

ONE = ("row", (3,))
TWO = ("row", (3, 5))
LONG = ("row", (1, 2, 3, 4, 5))
PAIR = ("ring", (3, 5))
ROUND = ("ring", (1, 2, 3, 4, 5))
GREAT_ROW = ("row", (BILLION,) * 24)
GREAT_RING = ("ring", (BILLION,) * 24)
SHORT_LINES = (
    ("row", (1,)), ("row", (3,)), ("row", (1, 2)), ("row", (2, 2)), ("row", (2, 1, 2)),
    ("ring", (1, 1)), ("ring", (3, 2)), ("ring", (1, 2, 2)), ("ring", (2, 1, 1, 1)),
)


def gate_count(line):
    form, rooms = line
    return len(rooms) + (form == "row")


def all_standings(line):
    return list(itertools.product(*[range(room + 1) for room in line[1]]))


def all_widths(line, choice):
    return list(itertools.product(choice, repeat=gate_count(line)))


def short_cases(choice=(0, 1, None)):
    """Each short line with each widths of this choice and each standing."""
    for line in SHORT_LINES:
        for widths in all_widths(line, choice):
            for standing in all_standings(line):
                yield line, widths, standing


def some_cases(seed, many, most_bins, most_room, shut=True):
    """Lines, widths and standings of all sizes to these, with edges more often than not; always the same."""
    chance = random.Random(seed)
    for _ in range(many):
        form = chance.choice(("row", "ring"))
        rooms = tuple(some_number(chance, 1, most_room) for _ in range(chance.randint(1 + (form == "ring"), most_bins)))
        line = (form, rooms)
        least = 0 if shut and chance.random() < 0.5 else 1
        widths = tuple(some_width(chance, least, most_room) for _ in range(gate_count(line)))
        yield line, widths, tuple(some_number(chance, 0, room) for room in rooms)


def some_number(chance, least, most):
    return chance.choice((least, most, chance.randint(least, most), chance.randint(least, most)))


def some_width(chance, least, most):
    return chance.choice((None, some_number(chance, least, most)))


def some_turns(chance, many, most):
    return [(chance.choice(WAYS), chance.randint(1, most)) for _ in range(many)]


# Things of any kind.

DEEP_LIST = [[[[[[[[1]]]]]]]]
DEEP_TUPLE = ((((((((1,),),),),),),),)
ODD_THINGS = (
    None, True, False, 0, 1, -1, 10 ** 30, "", "forth", "back", "[]", (), ((),), ([],), [()], [[]], [None], [True],
    [False], ["forth"], ["forth", 1], ("forth", 1), (("forth", 1),), [["forth", 1]], [[], []], [(), ()], [None, None],
    DEEP_LIST, DEEP_TUPLE, [DEEP_LIST], [DEEP_TUPLE], [("forth", DEEP_TUPLE)], [(DEEP_LIST, 1)],
)


# By hand.

def beside(line, gate):
    """The bins behind and ahead of a gate, None of a well."""
    form, rooms = line
    if form == "ring":
        return (gate or len(rooms)) - 1, gate
    return (gate - 1 if gate > 0 else None), (gate if gate < len(rooms) else None)


def moved_by_hand(line, widths, standing, way):
    told = []
    for gate, width in enumerate(widths):
        giver, taker = beside(line, gate) if way == "forth" else beside(line, gate)[::-1]
        many = width
        if giver is not None:
            many = standing[giver] if many is None else min(many, standing[giver])
        if taker is not None:
            room = line[1][taker] - standing[taker]
            many = room if many is None else min(many, room)
        told.append(many)
    return tuple(told)


def run_by_hand(line, standing, run):
    held = list(standing)
    counts = [0] * gate_count(line)
    for way, widths in run:
        sign = 1 if way == "forth" else -1
        for gate, many in enumerate(moved_by_hand(line, widths, tuple(held), way)):
            behind, ahead = beside(line, gate)
            counts[gate] += sign * many
            if behind is not None:
                held[behind] -= sign * many
            if ahead is not None:
                held[ahead] += sign * many
    return tuple(held), tuple(counts)


def turns_by_hand(line, widths, standing, turns):
    return run_by_hand(line, standing, [(way, widths) for way, many in turns for _ in range(many)])


def cost_by_hand(line, widths, standing, gate, other):
    """Bin by bin: its content from the gate out of it to the one into it, its room left the other way."""
    found = [widths[gate]] if gate == other and widths[gate] is not None else []
    for place, room in enumerate(line[1]):
        into, out = place, (place + 1) % gate_count(line)
        if (gate, other) == (out, into):
            found.append(standing[place])
        if (gate, other) == (into, out):
            found.append(room - standing[place])
    return min(found) if found else None


def walks_by_hand(line, widths, standing, gate, many):
    """The pairs (price, walk) of all walks of so many steps from a gate, one by one."""
    told = [(0, [gate])]
    for _ in range(many):
        further = []
        for price, walk in told:
            for other in range(gate_count(line)):
                step = cost_by_hand(line, widths, standing, walk[-1], other)
                if step is not None:
                    further.append((price + step, walk + [other]))
        told = further
    return told
