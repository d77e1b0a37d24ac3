"""Walks over the gates, and what their steps cost."""

from forthback.errors import NoStep
from forthback.kinds import is_number
from forthback.lines import RING, gates


def cost(line, widths, standing, gate, other):
    if not (is_gate(line, gate) and is_gate(line, other)):
        return None
    return min(costs(line, widths, standing, gate, other), default=None)


def is_gate(line, thing):
    return is_number(thing) and 0 <= thing < gates(line)


def costs(line, widths, standing, gate, other):
    """All that a step may cost: in a ring of two bins there are two ways to the other gate."""
    form, rooms = line
    found = []
    if gate == other and widths[gate] is not None:
        found.append(widths[gate])
    # Gate j leads into bin j: that is the bin between it and the gate next forth.
    if other == gate_behind(line, gate):
        found.append(standing[other])
    if gate == gate_behind(line, other):
        found.append(rooms[gate] - standing[gate])
    return found


def gate_behind(line, gate):
    form, rooms = line
    return (gate - 1) % len(rooms) if form == RING else gate - 1


def step_costs(line, widths, standing, walk):
    return [cost(line, widths, standing, gate, other) for gate, other in zip(walk, walk[1:])]


def price(line, widths, standing, walk):
    together = 0
    for at, step in enumerate(step_costs(line, widths, standing, walk)):
        if step is None:
            raise NoStep(at)
        together += step
    return together


def leads(line, widths, standing):
    """For each gate the pairs (other, cost) of all steps that lead on from it, rising."""
    told = []
    for gate in range(gates(line)):
        steps = [(other, cost(line, widths, standing, gate, other)) for other in range(gates(line))]
        told.append([step for step in steps if step[1] is not None])
    return told


def least_prices(steps, many):
    """Of no step, of one, .. of so many: for each gate the least price of a walk from it."""
    told = [[0] * len(steps)]
    while len(told) <= many:
        told.append([best_step(lead, told[-1])[0] for lead in steps])
    return told


def best_step(lead, prices):
    """The pair (price, other) of the step to go on by: of several that cost the least the one to the least gate."""
    return min([(step + prices[other], other) for other, step in lead])


def least_walk(line, widths, standing, gate, many):
    steps = leads(line, widths, standing)
    prices = least_prices(steps, many)
    walk = [gate]
    while len(walk) <= many:
        together, other = best_step(steps[walk[-1]], prices[many - len(walk)])
        walk.append(other)
    return prices[many][gate], walk


def is_walk(line, thing):
    return isinstance(thing, list) and len(thing) > 0 and all([is_gate(line, gate) for gate in thing])


def shows_count(line, widths, standing, gate, many, thing):
    if not is_walk(line, thing) or len(thing) != many + 1 or thing[0] != gate:
        return False
    steps = step_costs(line, widths, standing, thing)
    return None not in steps and sum(steps) == least_prices(leads(line, widths, standing), many)[many][gate]
