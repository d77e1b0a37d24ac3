"""Lines of bins with gates between them, and what lies in the bins."""

from forthback.kinds import is_number_from, is_tuple_of

ROW = "row"
RING = "ring"


def is_line(thing):
    if not is_tuple_of(thing, 2):
        return False
    form, rooms = thing
    if form == ROW:
        return are_rooms(rooms, 1)
    # A bin can't be its own neighbour, so a ring has two at least.
    return form == RING and are_rooms(rooms, 2)


def are_rooms(thing, least_bins):
    if not isinstance(thing, tuple) or len(thing) < least_bins:
        return False
    return all([is_number_from(room, 1) for room in thing])


def gates(line):
    form, rooms = line
    # A row has a gate more than bins: the one out of its last bin.
    return len(rooms) + 1 if form == ROW else len(rooms)


def is_widths(line, thing):
    if not is_tuple_of(thing, gates(line)):
        return False
    return all([width is None or is_number_from(width, 0) for width in thing])


def is_standing(line, thing):
    form, rooms = line
    if not is_tuple_of(thing, len(rooms)):
        return False
    return all([is_number_from(held, 0) and held <= room for held, room in zip(thing, rooms)])


def bare(line):
    form, rooms = line
    return (0,) * len(rooms)


def full(line):
    form, rooms = line
    return tuple(rooms)


def lacking(line, standing):
    form, rooms = line
    return tuple([room - held for held, room in zip(standing, rooms)])


def turned_line(line):
    form, rooms = line
    return form, tuple(reversed(rooms))


def turned(line, standing):
    return tuple(reversed(standing))


def turned_widths(line, widths):
    form, rooms = line
    about = tuple(reversed(widths))
    if form == ROW:
        return about
    # Turned about, gate 0 of a ring would come to be the last: it goes ahead again.
    return about[-1:] + about[:-1]


def replaced(values, at, value):
    """The tuple of these values, but for the one at that place."""
    return tuple([value if place == at else kept for place, kept in enumerate(values)])
