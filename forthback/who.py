"""Who lies where: nobody passes anybody, so that how many went by the gates tells it."""

from forthback.errors import NoRow, TooMany
from forthback.far import counts, when
from forthback.limits import MOST_LANE
from forthback.lines import RING


def refuse_ring(line):
    form, rooms = line
    if form == RING:
        raise NoRow()


def ahead_at_first(standing):
    """For each gate how many of the things in the bins lie ahead of it: all lesser numbers do, and none else."""
    told = [0]
    for held in reversed(standing):
        told.append(told[-1] + held)
    return told[::-1]


def ahead_behind(line, widths, standing, way, many):
    """For each gate the number behind so many beats of which it holds that all lesser ones lie ahead, none else."""
    gone = counts(line, widths, standing, way, many)
    return [first + count for first, count in zip(ahead_at_first(standing), gone)]


def lane(line, standing):
    refuse_ring(line)
    many = sum(standing)
    if many > MOST_LANE:
        raise TooMany(many)
    ahead = ahead_at_first(standing)
    return [list(range(ahead[place + 1], ahead[place])) for place in range(len(standing))]


def where(line, widths, standing, number, way, many):
    refuse_ring(line)
    gone_by = [first for first in ahead_behind(line, widths, standing, way, many) if number < first]
    return len(gone_by) - 1


def who(line, widths, standing, place, way, many):
    refuse_ring(line)
    ahead = ahead_behind(line, widths, standing, way, many)
    if ahead[place + 1] == ahead[place]:
        return None
    return ahead[place + 1], ahead[place] - 1


def goes_by(line, widths, standing, number, gate):
    refuse_ring(line)
    return when(line, widths, standing, gate, number + 1 - ahead_at_first(standing)[gate])
