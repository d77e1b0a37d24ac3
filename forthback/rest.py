"""Where rows with shut ends come to rest."""

from forthback.beats import FORTH, beat, led_to
from forthback.errors import Open
from forthback.far import beats_until
from forthback.lines import ROW, gates, lacking


def refuse_open(line, widths):
    form, rooms = line
    if form != ROW or widths[0] != 0 or widths[-1] != 0:
        raise Open()


def rest(line, widths, standing):
    return led_to(standing, rest_counts(line, widths, standing))


def rests_when(line, widths, standing):
    last = list(rest_counts(line, widths, standing))
    return beats_until(line, widths, standing, lambda told: told == last)


def rest_counts(line, widths, standing):
    refuse_open(line, widths)
    shut = [gate for gate, width in enumerate(widths) if width == 0]
    free = lacking(line, standing)
    # Of very many steps the least walk goes straight to a shut gate, where it stays for nothing.
    return tuple([min([straight(standing, free, gate, other) for other in shut]) for gate in range(gates(line))])


def straight(standing, free, gate, other):
    """The price of the walk from a gate straight to another one."""
    return sum(standing[other:gate]) if other <= gate else sum(free[gate:other])


def is_resting(line, widths, standing):
    refuse_open(line, widths)
    return beat(line, widths, standing, FORTH) == tuple(standing)
