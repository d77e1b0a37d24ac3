"""Beats: how many go by each gate at once, and what lies where behind them."""

from forthback.lines import RING, lacking

FORTH = "forth"
BACK = "back"


def contrary(way):
    return BACK if way == FORTH else FORTH


def moved(line, widths, standing, way):
    form, rooms = line
    behind, ahead = standing, lacking(line, standing)
    if way == BACK:
        # Holes go as things do: a beat back is one forth of what each bin lacks.
        behind, ahead = ahead, behind
    return tuple([min(bounds_at(form, behind, ahead, gate, width)) for gate, width in enumerate(widths)])


def bounds_at(form, behind, ahead, gate, width):
    bounds = []
    if width is not None:
        bounds.append(width)
    # Behind gate 0 of a ring is its last bin, the one that Python finds at -1; of a row there is none.
    if form == RING or gate > 0:
        bounds.append(behind[gate - 1])
    if gate < len(ahead):
        bounds.append(ahead[gate])
    return bounds


def beat_counts(line, widths, standing, way):
    gone = moved(line, widths, standing, way)
    return gone if way == FORTH else tuple([-many for many in gone])


def led_to(standing, counts):
    """The standing to which these counts lead."""
    # A ring has as many gates as bins, so that the gate out of its last bin is gate 0 again.
    many = len(counts)
    return tuple([held + counts[at] - counts[(at + 1) % many] for at, held in enumerate(standing)])


def added(counts, more):
    return tuple([count + one for count, one in zip(counts, more)])


def beat(line, widths, standing, way):
    return led_to(standing, beat_counts(line, widths, standing, way))


def beats(line, widths, standing, way, many):
    told = [tuple(standing)]
    while len(told) <= many:
        told.append(beat(line, widths, told[-1], way))
    return told
