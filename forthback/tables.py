"""Tables of what walks of so many steps cost.

A grid is a list, for each gate, of a list with the least price of a walk from it to each gate, None of none.
"""

from forthback.beats import FORTH
from forthback.errors import Unlike
from forthback.lines import gates
from forthback.walks import cost


class Table:
    def __init__(self, line, widths, standing, many):
        form, rooms = line
        self.made_of = ((form, tuple(rooms)), tuple(widths), tuple(standing))
        self.many = many
        self.grid = grid_of(line, widths, standing, many)

    def steps(self):
        return self.many

    def price(self, gate, other):
        return self.grid[gate][other]

    def counts(self):
        return self.led([0] * len(self.grid))

    def then(self, other):
        if self.made_of != other.made_of:
            raise Unlike()
        line, widths, standing = self.made_of
        return Table(line, widths, standing, self.many + other.many)

    def led(self, counts):
        return tuple(led_by(self.grid, counts))

    def led_back(self, counts):
        return tuple(led_back_by(self.grid, counts))

    def __eq__(self, other):
        return isinstance(other, Table) and self.made_of == other.made_of and self.many == other.many


def grid_of(line, widths, standing, many):
    grids = doubled_grids(line, widths, standing, many)
    told = grid_of_none(gates(line))
    for grid in grids_in(grids, many):
        told = chained(told, grid)
    return told


def grid_of_none(many):
    """The grid of walks of no step."""
    return [[0 if gate == other else None for other in range(many)] for gate in range(many)]


def grid_of_one(line, widths, standing):
    """The grid of walks of one step."""
    many = gates(line)
    return [[cost(line, widths, standing, gate, other) for other in range(many)] for gate in range(many)]


def doubled_grids(line, widths, standing, many):
    """The grids of 1, 2, 4, .. steps, of which those of any number to many are made."""
    grids = [grid_of_one(line, widths, standing)]
    while len(grids) < many.bit_length():
        grids.append(chained(grids[-1], grids[-1]))
    return grids


def grids_in(grids, many):
    """Those of the grids of 1, 2, 4, .. steps that make up many."""
    return [grid for at, grid in enumerate(grids) if (many >> at) & 1]


def chained(grid, other):
    """The grid of walks of one grid's steps, then the other's."""
    columns = columns_of(other)
    return [[least_sum(row, column) for column in columns] for row in grid]


def columns_of(grid):
    return [list(column) for column in zip(*grid)]


def least_sum(row, column):
    sums = [one + other for one, other in zip(row, column) if one is not None and other is not None]
    return min(sums, default=None)


def led_by(grid, numbers):
    return [least_sum(row, numbers) for row in grid]


def led_back_by(grid, numbers):
    # The greatest of number less price is, with the other sign, the least of price less number.
    less = [-number for number in numbers]
    return [-least_sum(column, less) for column in columns_of(grid)]


def gone_on(grids, way, many, counts):
    """The counts behind so many beats more that way, of the grids of 1, 2, 4, .. steps."""
    for grid in grids_in(grids, many):
        counts = led_by(grid, counts) if way == FORTH else led_back_by(grid, counts)
    return counts
