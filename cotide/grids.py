"""Charts: their squares, the sides between told squares, and their seas."""

from cotide.errors import BadChart, BadSquare
from cotide.hours import is_clock

MOST_SQUARES = 9
LAND = -1
UNTOLD = -2


def is_what(clock, one):
    """Whether a square can be so: an hour of the clock, land, or sea that was not told."""
    return UNTOLD <= one < clock


def is_row(clock, row, wide):
    """Whether a chart of this clock, so many squares wide, can have the row."""
    return len(row) == wide and all([is_what(clock, one) for one in row])


def is_chart(chart):
    """Whether a pair of a number and a tuple of tuples of numbers is a chart."""
    clock, rows = chart
    if not is_clock(clock) or not 1 <= len(rows) <= MOST_SQUARES:
        return False
    wide = len(rows[0])
    return 1 <= wide <= MOST_SQUARES and all([is_row(clock, row, wide) for row in rows])


def need_chart(chart):
    """Refuse what is no chart."""
    if not is_chart(chart):
        raise BadChart("a chart is a clock and 1 to 9 rows of 1 to 9 squares")


def size(chart):
    """How many rows and how many columns the chart has."""
    need_chart(chart)
    rows = chart[1]
    return (len(rows), len(rows[0]))


def hour_at(chart, square):
    """What the square is: its hour, -1 for land, -2 for sea that was not told."""
    high, wide = size(chart)
    row, column = square
    if not (0 <= row < high and 0 <= column < wide):
        raise BadSquare("the chart has no such square")
    return chart[1][row][column]


def told_hours(chart):
    """The hour of each told square, by the squares, which stand rising."""
    need_chart(chart)
    return {(at, column): one for at, row in enumerate(chart[1]) for column, one in enumerate(row) if one >= 0}


def told(chart):
    """The squares that have an hour, rising."""
    return list(told_hours(chart))


def sides(chart):
    """The pairs of told neighbours, the other one to the right or below, rising."""
    squares = told(chart)
    known = set(squares)
    found = []
    for row, column in squares:
        for other in ((row, column + 1), (row + 1, column)):
            if other in known:
                found.append(((row, column), other))
    return found


def told_neighbours(chart):
    """For each told square, in rising order, the told squares beside it."""
    beside = {square: [] for square in told(chart)}
    for square, other in sides(chart):
        beside[square].append(other)
        beside[other].append(square)
    return beside


def led_to(beside, first):
    """All places to which the first leads, itself too, rising."""
    found = [first]
    seen = {first: True}
    at = 0
    while at < len(found):
        here = found[at]
        for other in beside[here]:
            if other not in seen:
                seen[other] = True
                found.append(other)
        at += 1
    return sorted(found)


def together(beside):
    """The places that lead to one another, a rising list for each lot, in the order of the places."""
    seen = {}
    found = []
    for place in beside:
        if place not in seen:
            lot = led_to(beside, place)
            for one in lot:
                seen[one] = True
            found.append(lot)
    return found


def seas(chart):
    """The told squares that hang together, a list for each sea, by their first squares."""
    return together(told_neighbours(chart))
