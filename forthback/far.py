"""Far beats, told outright by the prices of walks."""

from forthback.beats import led_to
from forthback.lines import gates
from forthback.tables import chained, doubled_grids, gone_on, grid_of_one, led_by


def noughts(line):
    return [0] * gates(line)


def counts(line, widths, standing, way, many):
    grids = doubled_grids(line, widths, standing, many)
    return tuple(gone_on(grids, way, many, noughts(line)))


def far(line, widths, standing, way, many):
    return led_to(standing, counts(line, widths, standing, way, many))


def far_turns(line, widths, standing, turns):
    most = max([many for way, many in turns], default=0)
    grids = doubled_grids(line, widths, standing, most)
    told = noughts(line)
    for way, many in turns:
        told = gone_on(grids, way, many, told)
    return led_to(standing, told), tuple(told)


def when(line, widths, standing, gate, many):
    return beats_until(line, widths, standing, lambda told: told[gate] >= many)


def beats_until(line, widths, standing, is_so):
    """The least number of beats forth behind which the counts are so, once and for good; None where they never are."""
    if is_so(noughts(line)):
        return 0
    grids = grids_until(line, widths, standing, is_so)
    return None if grids is None else beats_short(grids, is_so) + 1


def grids_until(line, widths, standing, is_so):
    """The grids of 1, 2, 4, .. steps, to the first behind whose beats the counts are so; None where none is."""
    one = grid_of_one(line, widths, standing)
    grids = [one]
    told = led_by(one, noughts(line))
    while not is_so(told):
        # A beat that moves nothing is followed by such alone; as long as each moves something, each gate's count grows.
        if led_by(one, told) == told:
            return None
        grids.append(chained(grids[-1], grids[-1]))
        told = led_by(grids[-1], noughts(line))
    return grids


def beats_short(grids, is_so):
    """The greatest number of beats behind which the counts aren't so yet."""
    beats = 0
    told = [0] * len(grids[0])
    for at, grid in reversed(list(enumerate(grids))):
        further = led_by(grid, told)
        if not is_so(further):
            told = further
            beats += 1 << at
    return beats
