"""Grids: lots with one integer for each bound, so that bounds are added and compared fast.

The code of the bound (k, e) is 2 k + e, so tighter bounds have lesser codes; the code
of None is above all that sums of bounds come to. A grid is a tuple of rows, as a lot is.
Nothing is checked here: grids are tight, and their integers have any length.
"""

NO_BOUND = 1 << 256

# The code of (0, 1): what stands on the diagonal, and what no code of row 0 is above.
AT_MOST_NOUGHT = 1

# 0 is within the sum of two bounds exactly if their codes add up to so much or more.
LEAST_OF_RING = 2


def code_of(bound):
    """The integer for a bound."""
    return NO_BOUND if bound is None else 2 * bound[0] + bound[1]


def bound_of(code):
    """The bound with this code."""
    return None if code == NO_BOUND else (code >> 1, code & 1)


def grid_of(lot):
    """The grid of a lot."""
    return tuple([tuple([code_of(bound) for bound in row]) for row in lot])


def lot_of(grid):
    """The lot of a grid."""
    return tuple([tuple([bound_of(code) for code in row]) for row in grid])


def code_sum(one, other):
    """The code of the sum of two bounds."""
    if one == NO_BOUND or other == NO_BOUND:
        return NO_BOUND
    # Two ends that belong to their bounds are told twice; one that does not takes the other's away.
    return one + other - ((one | other) & 1)


def opposite_code(code):
    """The code of the turned bound."""
    return 1 - code


def free_row(clock, many):
    """The row of a clock that nothing bounds from above, with so many codes."""
    return tuple([AT_MOST_NOUGHT if to == clock else NO_BOUND for to in range(many)])


def whole_grid(clocks):
    """The grid of all points."""
    first = tuple([AT_MOST_NOUGHT] * (clocks + 1))
    return (first, *[free_row(clock, clocks + 1) for clock in range(1, clocks + 1)])


def tighter_row(row, start, ends):
    """The row with each code made as little as the sum of the start with the one of the ends there."""
    if start == NO_BOUND:
        return row
    # Below start + end is at most code_sum(start, end), which is no more than one less.
    return tuple([
        code if end == NO_BOUND or code < start + end else start + end - ((start | end) & 1)
        for code, end in zip(row, ends)
    ])


def is_tight(grid):
    """Whether rows of codes are those of a lot."""
    if any([row[at] != AT_MOST_NOUGHT for at, row in enumerate(grid)]):
        return False
    if any([code > AT_MOST_NOUGHT for code in grid[0]]):
        return False
    return all([tighter_row(row, start, ends) == row for row in grid for start, ends in zip(row, grid)])


def is_grid_within(grid, other):
    """Whether all points of the grid are points of the other one."""
    for row, other_row in zip(grid, other):
        for code, most in zip(row, other_row):
            if code > most:
                return False
    return True


def cut_grid(grid, one, other, code):
    """The grid of the points where one clock less the other is within a bound too; None if there are none."""
    if grid[one][other] <= code:
        return grid
    if grid[other][one] + code < LEAST_OF_RING:
        return None
    ends = grid[other]
    return tuple([tighter_row(row, code_sum(row[one], code), ends) for row in grid])


def kept_grid(clocks, rules):
    """The grid of the points that keep all rules; None if there are none."""
    grid = whole_grid(clocks)
    for one, other, bound in rules:
        grid = cut_grid(grid, one, other, code_of(bound))
        if grid is None:
            return None
    return grid


def met_grid(grid, other):
    """The grid of the points that both share; None if there are none."""
    rows = tuple([
        tuple([code if code < most else most for code, most in zip(row, other_row)])
        for row, other_row in zip(grid, other)
    ])
    if rows == grid or rows == other:
        return rows
    for middle in range(len(rows)):
        ends = rows[middle]
        rows = tuple([tighter_row(row, row[middle], ends) for row in rows])
        if any([row[at] < AT_MOST_NOUGHT for at, row in enumerate(rows)]):
            return None
    return rows


def later_grid(grid):
    """The grid of the points to which points of the grid can wait."""
    return (grid[0], *[(NO_BOUND, *row[1:]) for row in grid[1:]])


def earlier_grid(grid):
    """The grid of the points that can wait into the grid."""
    firsts = [min([row[clock] for row in grid[1:]]) for clock in range(1, len(grid))]
    return ((AT_MOST_NOUGHT, *firsts), *grid[1:])


def freed_row(row, clocks):
    """The row of another clock when the clocks are freed."""
    return tuple([row[0] if to in clocks else code for to, code in enumerate(row)])


def freed_grid(grid, clocks):
    """The grid of the points that show at all other clocks what some point of the grid shows."""
    return tuple([
        free_row(at, len(grid)) if at in clocks else freed_row(row, clocks) for at, row in enumerate(grid)
    ])


def back_grid(grid, clocks):
    """The grid of what the points of the grid are when the clocks are set back."""
    shown_by = [0 if at in clocks else at for at in range(len(grid))]
    return tuple([tuple([grid[at][to] for to in shown_by]) for at in shown_by])


def ahead_grid(grid, clocks):
    """The grid of the points that are in the grid when the clocks are set back; None if there are none."""
    for clock in clocks:
        grid = cut_grid(grid, clock, 0, AT_MOST_NOUGHT)
        if grid is None:
            return None
    return freed_grid(grid, clocks)
