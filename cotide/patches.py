"""Patches: charts cut out, turned, mirrored, later by some hours, and laid into other charts."""

from cotide.errors import BadSquare, Unlike
from cotide.grids import need_chart, size


def need_within(chart, top, left, high, wide):
    """Refuse so many rows and columns from a square on that do not lie within the chart, or have no square."""
    rows, columns = size(chart)
    if high < 1 or wide < 1 or top < 0 or left < 0 or top + high > rows or left + wide > columns:
        raise BadSquare("the patch does not lie within the chart")


def need_fit(chart, patch, top, left):
    """Refuse a patch that cannot be laid into the chart from the square on."""
    need_chart(chart)
    need_chart(patch)
    if chart[0] != patch[0]:
        raise Unlike("the patch has another clock than the chart")
    high, wide = size(patch)
    need_within(chart, top, left, high, wide)


def cut(chart, top, left, rows, columns):
    """The patch of so many rows and columns from a square on."""
    need_within(chart, top, left, rows, columns)
    return (chart[0], tuple([row[left:left + columns] for row in chart[1][top:top + rows]]))


def turned(chart):
    """The chart a quarter to the right: its first row is the last column."""
    wide = size(chart)[1]
    return (chart[0], tuple([tuple([row[column] for row in chart[1][::-1]]) for column in range(wide)]))


def mirrored(chart):
    """The chart with left and right exchanged."""
    need_chart(chart)
    return (chart[0], tuple([row[::-1] for row in chart[1]]))


def later(chart, by=1):
    """The chart with each hour so many later, round the clock."""
    need_chart(chart)
    clock, rows = chart
    return (clock, tuple([tuple([one if one < 0 else (one + by) % clock for one in row]) for row in rows]))


def laid_in(chart, patch, top=0, left=0):
    """The chart with the patch's squares, from the square (top, left) on, in the place of its own."""
    need_fit(chart, patch, top, left)
    rows = [list(row) for row in chart[1]]
    for at, row in enumerate(patch[1]):
        rows[top + at][left:left + len(row)] = list(row)
    return (chart[0], tuple([tuple(row) for row in rows]))
