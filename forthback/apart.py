"""How far two standings of a line are apart."""

from forthback.beats import led_to
from forthback.errors import Full, NotAlike
from forthback.lines import RING, gates, replaced


def between(line, one, other):
    form, rooms = line
    if form == RING and sum(one) != sum(other):
        raise NotAlike()
    told = [0]
    for first, second in zip(one, other):
        told.append(told[-1] + first - second)
    # In a ring the gate out of the last bin is gate 0 again.
    return tuple(told[:gates(line)])


def apart(line, one, other):
    counts = between(line, one, other)
    return max(counts) - min(counts)


def is_further(line, one, other):
    return min(between(line, one, other)) >= 0


def lesser(line, one, other):
    return led_to(one, [min(0, count) for count in between(line, one, other)])


def greater(line, one, other):
    return led_to(one, [max(0, count) for count in between(line, one, other)])


def with_more(line, standing, place):
    form, rooms = line
    if standing[place] == rooms[place]:
        raise Full(place)
    return replaced(standing, place, standing[place] + 1)
