"""Ages: hours counted on over whole tides, where no eye is knotted."""

from cotide.errors import Knotted
from cotide.eyes import knots
from cotide.grids import need_chart, seas, sides, size, told_hours, told_neighbours
from cotide.hours import nearest_step


def even(chart):
    """Whether no eye of the chart is knotted."""
    return len(knots(chart)) == 0


def lay_sea(clock, hours, beside, first, known):
    """Add to the known ages those of the first square's sea, from its hour on."""
    known[first] = hours[first]
    waiting = [first]
    while waiting:
        here = waiting.pop()
        for other in beside[here]:
            if other not in known:
                known[other] = known[here] + nearest_step(clock, hours[here], hours[other])
                waiting.append(other)


def ages(chart):
    """The ages that are laid, the first square of each sea at its hour."""
    many = len(knots(chart))
    if many > 0:
        raise Knotted(many)
    hours = told_hours(chart)
    beside = told_neighbours(chart)
    known = {}
    for sea in seas(chart):
        lay_sea(chart[0], hours, beside, sea[0], known)
    high, wide = size(chart)
    return [[known.get((row, column)) for column in range(wide)] for row in range(high)]


def is_age(clock, one, age):
    """Whether a square can have the age: its hour and whole tides, None where it has no hour."""
    if one < 0:
        return age is None
    return age is not None and (age - one) % clock == 0


def are_ages(chart, rows):
    """Whether a list of lists of numbers and None has an age for each told square, and None for all others."""
    need_chart(chart)
    clock, known = chart
    if [len(row) for row in rows] != [len(row) for row in known]:
        return False
    return all([is_age(clock, one, rows[at][column]) for at, row in enumerate(known) for column, one in enumerate(row)])


def is_laid(chart, rows):
    """Whether rows are ages that go on at every side by the step of its hours."""
    if not are_ages(chart, rows):
        return False
    hours = told_hours(chart)
    for square, other in sides(chart):
        on = rows[other[0]][other[1]] - rows[square[0]][square[1]]
        if on != nearest_step(chart[0], hours[square], hours[other]):
            return False
    return True
