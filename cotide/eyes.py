"""Eyes: the corners that no side parts, and how often the hours go round them."""

from cotide.errors import BadSquare
from cotide.grids import size, together, told_hours
from cotide.hours import nearest_step

# Stands for all beyond the rim; it goes ahead of every corner, and no corner lies beside it.
OUTSIDE = (-1, -1)


def corners(chart):
    """All corners of the chart, rising."""
    high, wide = size(chart)
    return [(row, column) for row in range(high - 1) for column in range(wide - 1)]


def borders(corner):
    """The two squares of each border of the corner, to the right round it, and the corner beyond them."""
    row, column = corner
    upper_left = (row, column)
    upper_right = (row, column + 1)
    lower_right = (row + 1, column + 1)
    lower_left = (row + 1, column)
    return [
        (upper_left, upper_right, (row - 1, column)),
        (upper_right, lower_right, (row, column + 1)),
        (lower_right, lower_left, (row + 1, column)),
        (lower_left, upper_left, (row, column - 1)),
    ]


def ways(chart):
    """For the outside and for each corner what lies beside it and is parted from it by no side."""
    hours = told_hours(chart)
    every = corners(chart)
    beside = {place: [] for place in [OUTSIDE] + every}
    for corner in every:
        for square, other, beyond in borders(corner):
            if square in hours and other in hours:
                continue
            if beyond in beside:
                beside[corner].append(beyond)
            else:
                beside[corner].append(OUTSIDE)
                beside[OUTSIDE].append(corner)
    return beside


def eye_corners(chart):
    """The corners of each eye, rising, by their first corners."""
    # What is open to the outside hangs together with it, and the outside stands first.
    return together(ways(chart))[1:]


def corner_steps(clock, hours, corner):
    """What the steps along the sides at the corner come to, to the right round it."""
    steps = [
        nearest_step(clock, hours[square], hours[other])
        for square, other, beyond in borders(corner)
        if square in hours and other in hours
    ]
    return sum(steps)


def eyes(chart):
    """A pair for each eye: the list of its corners, and its count."""
    hours = told_hours(chart)
    clock = chart[0]
    found = []
    for some in eye_corners(chart):
        total = sum([corner_steps(clock, hours, corner) for corner in some])
        # Steps between two corners of the eye cancel out and the others close, so nothing is left over here.
        found.append((some, total // clock))
    return found


def knots(chart):
    """A pair for each knotted eye: its first corner, and its count."""
    return [(some[0], count) for some, count in eyes(chart) if count != 0]


def eye_at(chart, corner):
    """The place of the corner's eye among all eyes, None where the corner is open to the outside."""
    if corner not in corners(chart):
        raise BadSquare("the chart has no such corner")
    for at, some in enumerate(eye_corners(chart)):
        if corner in some:
            return at
    return None


def whole_count(chart):
    """The counts of all eyes together."""
    return sum([count for some, count in eyes(chart)])
