"""Runs: beats one behind the other, each by its own widths."""

from forthback.beats import added, beat_counts, contrary, led_to
from forthback.lines import gates


def led(line, standing, run):
    held = tuple(standing)
    counts = (0,) * gates(line)
    for way, widths in run:
        more = beat_counts(line, widths, held, way)
        held = led_to(held, more)
        counts = added(counts, more)
    return held, counts


def taken_back(run):
    return [(contrary(way), tuple(widths)) for way, widths in reversed(run)]
