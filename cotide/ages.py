"""Ages: hours counted on over whole tides, where no eye is knotted."""

from cotide.errors import Knotted
from cotide.eyes import knots
from cotide.grids import need_chart, seas, sides, size, told_hours, told_neighbours
from cotide.hours import nearest_step


def even(chart):
    """Whether no eye of the chart is knotted."""
    return len(knots(chart)) == 0


def side_steps(chart):
    """For each side, rising, the step of its hours."""
    hours = told_hours(chart)
    return {(square, other): nearest_step(chart[0], hours[square], hours[other]) for square, other in sides(chart)}


def age_on(known, by, here, other):
    """The age of the other square, going on from here by what stands for the side between them."""
    if (here, other) in by:
        return known[here] + by[(here, other)]
    return known[here] - by[(other, here)]


def lay_sea(by, beside, first, known):
    """Add to the known ages those of the first square's sea, from its own on."""
    waiting = [first]
    while waiting:
        here = waiting.pop()
        for other in beside[here]:
            if other not in known:
                known[other] = age_on(known, by, here, other)
                waiting.append(other)


def gone_on(chart, by):
    """Rows of ages, the first square of each sea at its hour, that go on by what stands for each side.

    Where two ways lead to a square one of them counts, so what stands for some sides may not hold in the end.
    """
    hours = told_hours(chart)
    beside = told_neighbours(chart)
    known = {}
    for sea in seas(chart):
        known[sea[0]] = hours[sea[0]]
        lay_sea(by, beside, sea[0], known)
    high, wide = size(chart)
    return [[known.get((row, column)) for column in range(wide)] for row in range(high)]


def ages(chart):
    """The ages that are laid, the first square of each sea at its hour."""
    many = len(knots(chart))
    if many > 0:
        raise Knotted(many)
    return gone_on(chart, side_steps(chart))


def is_age(clock, one, age):
    """Whether a square can have the age: its hour and whole tides, None where it has no hour."""
    if one < 0:
        return age is None
    return age is not None and (age - one) % clock == 0


def are_ages(chart, rows):
    """Whether a list of lists of numbers and None has an age for each told square, and None for all others."""
    need_chart(chart)
    clock, known = chart
    if [len(row) for row in rows] != [len(row) for row in known]:
        return False
    return all([is_age(clock, one, rows[at][column]) for at, row in enumerate(known) for column, one in enumerate(row)])


def off_steps(chart, rows):
    """For each side, rising, how many hours the ages in rows go on beyond the step."""
    steps = side_steps(chart)
    return {
        (square, other): rows[other[0]][other[1]] - rows[square[0]][square[1]] - steps[(square, other)]
        for square, other in steps
    }


def is_laid(chart, rows):
    """Whether rows are ages that go on at every side by the step of its hours."""
    return are_ages(chart, rows) and not any(list(off_steps(chart, rows).values()))
