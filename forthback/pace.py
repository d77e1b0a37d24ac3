"""The pace at which a line goes on, with rounds and heights that show it."""

from forthback.kinds import is_number, is_number_from, is_tuple_of
from forthback.lines import RING, gates, lacking
from forthback.walks import is_walk, leads, step_costs


def pace(line, widths, standing):
    together, walk = slowest(line, widths, standing)
    return lowest_terms(together, len(walk) - 1)


def slow_round(line, widths, standing):
    together, walk = slowest(line, widths, standing)
    return walk


def rounds(line, widths, standing):
    """The pairs (price, walk) of all rounds that don't cross themselves: what others cost is made of these."""
    form, rooms = line
    many = gates(line)
    told = [(width, [gate, gate]) for gate, width in enumerate(widths) if width is not None]
    told += [(room, [gate, (gate + 1) % many, gate]) for gate, room in enumerate(rooms)]
    if form == RING:
        forth = list(range(many)) + [0]
        told.append((sum(lacking(line, standing)), forth))
        told.append((sum(standing), forth[::-1]))
    return told


def slowest(line, widths, standing):
    """The pair (price, walk) of a round that costs the least by its steps."""
    # A round has one step, two, or as many as bins, so that each price by steps is a whole number of these parts.
    parts = 2 * len(standing)
    return min(rounds(line, widths, standing), key=lambda one: one[0] * (parts // (len(one[1]) - 1)))


def lowest_terms(top, bottom):
    common = common_measure(top, bottom)
    return top // common, bottom // common


def common_measure(one, other):
    """The greatest number that goes into both."""
    one, other = abs(one), abs(other)
    while other > 0:
        one, other = other, one % other
    return one


def heights(line, widths, standing):
    top, bottom = pace(line, widths, standing)
    steps = leads(line, widths, standing)
    told = [0] * len(steps)
    # No round costs less than the pace, so a walk to each gate once is the longest that can be the least.
    while not are_right(told, steps, top, bottom):
        told = [min([level] + lead_levels(told, lead, top, bottom)) for level, lead in zip(told, steps)]
    return told


def lead_levels(levels, lead, top, bottom):
    """What each of the steps that lead on from a gate lets its height be at most."""
    return [levels[other] + bottom * step - top for other, step in lead]


def are_right(levels, steps, top, bottom):
    return all([level <= min(lead_levels(levels, lead, top, bottom)) for level, lead in zip(levels, steps)])


def shows_pace(line, widths, standing, thing):
    if not is_tuple_of(thing, 3):
        return False
    speed, walk, levels = thing
    if not is_fraction(speed) or not are_levels(line, levels):
        return False
    top, bottom = speed
    if not is_round_at(line, widths, standing, walk, top, bottom):
        return False
    return are_right(levels, leads(line, widths, standing), top, bottom)


def is_fraction(thing):
    if not is_tuple_of(thing, 2):
        return False
    top, bottom = thing
    return is_number(top) and is_number_from(bottom, 1) and common_measure(top, bottom) == 1


def are_levels(line, thing):
    return isinstance(thing, list) and len(thing) == gates(line) and all([is_number(level) for level in thing])


def is_round_at(line, widths, standing, thing, top, bottom):
    """Whether it's a walk round whose price by its steps is this fraction."""
    if not is_walk(line, thing) or len(thing) < 2 or thing[0] != thing[-1]:
        return False
    steps = step_costs(line, widths, standing, thing)
    return None not in steps and bottom * sum(steps) == top * len(steps)


def best_ring(rooms, widths):
    bins = len(rooms)
    together = sum(rooms)
    # All in parts of which two for each bin make one: half of all room, or the least that a bin or a gate lets go on.
    bounds = [2 * (together // 2), bins * min(rooms)]
    bounds += [2 * bins * width for width in widths if width is not None]
    best = min(bounds)
    least = (best + 1) // 2
    return lowest_terms(best, 2 * bins), (least, together - least)
