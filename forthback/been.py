"""What must have been ahead of so many beats."""

from forthback.beats import contrary, led_to
from forthback.errors import Barred
from forthback.far import noughts
from forthback.tables import doubled_grids, gone_on


def before_and_again(line, grids, way, many):
    """The counts behind many beats the other way, and behind as many that way then."""
    before = gone_on(grids, contrary(way), many, noughts(line))
    return before, gone_on(grids, way, many, before)


def is_left(line, grids, way, many):
    before, again = before_and_again(line, grids, way, many)
    return again == noughts(line)


def is_behind(line, widths, standing, way, many):
    return is_left(line, doubled_grids(line, widths, standing, many), way, many)


def had(line, widths, standing, way, many):
    grids = doubled_grids(line, widths, standing, many)
    before, again = before_and_again(line, grids, way, many)
    for gate, count in enumerate(again):
        if count != 0:
            raise Barred(gate)
    return led_to(standing, before), tuple([-count for count in before])


def raised(line, widths, standing, way, many):
    grids = doubled_grids(line, widths, standing, many)
    before, again = before_and_again(line, grids, way, many)
    return led_to(standing, again), tuple(again)


def depth(line, widths, standing, way, most):
    grids = doubled_grids(line, widths, standing, most)
    low = 0
    high = most
    # What is behind so many beats is behind each lesser number too, so the greatest is found by halving.
    while low < high:
        midst = (low + high + 1) // 2
        if is_left(line, grids, way, midst):
            low = midst
        else:
            high = midst - 1
    return low
