"""Fills: hours for all squares of sea so that no eye is knotted, and the bars where there are none."""

from cotide.errors import BadSquare, NoFill
from cotide.grids import UNTOLD, hour_at, told_hours, told_neighbours
from cotide.patches import laid_in

LEAST_SQUARES = 2


def sea_neighbours(chart):
    """For each square of sea, told or not, the squares of sea beside it."""
    # Where any hour stands on all sea, the told squares are just the squares of sea.
    rows = tuple([tuple([0 if one == UNTOLD else one for one in row]) for row in chart[1]])
    return told_neighbours((chart[0], rows))


def steps_from(beside, first, stops):
    """The least steps from the first square to each that it leads to, on no way that goes on behind a stop."""
    steps = {first: 0}
    waiting = [first]
    at = 0
    while at < len(waiting):
        here = waiting[at]
        at += 1
        if here != first and here in stops:
            continue
        for other in beside[here]:
            if other not in steps:
                steps[other] = steps[here] + 1
                waiting.append(other)
    return steps


def room(clock, steps, one, other):
    """How many tides the second square may be above the first, so many steps off, with these hours."""
    return (steps * (clock // 2) - other + one) // clock


def near_rooms(chart):
    """Triples (square, other, room) of told squares that others lead to over squares that are not told.

    A way over a told square leaves no less room than the two ways that it is made of, so it need not be here.
    """
    hours = told_hours(chart)
    beside = sea_neighbours(chart)
    found = []
    for square in hours:
        steps = steps_from(beside, square, hours)
        for other in steps:
            if other in hours and other != square:
                found.append((square, other, room(chart[0], steps[other], hours[square], hours[other])))
    return found


def lower_once(tides, ahead, rooms):
    """Lower each square's tides to the room that others leave, once over; tell the last one lowered, or None."""
    last = None
    for square, other, some in rooms:
        if tides[square] + some < tides[other]:
            tides[other] = tides[square] + some
            ahead[other] = square
            last = other
    return last


def ring_behind(ahead, last):
    """The ring into which the way back from the last square leads, in the order of the way on."""
    here = last
    for step in range(len(ahead)):
        here = ahead[here]
    ring = [here]
    while ahead[ring[-1]] != here:
        ring.append(ahead[ring[-1]])
    return ring[::-1]


def settled(chart):
    """A pair: tides for the told squares that keep within all rooms, and None; or None and a bar."""
    rooms = near_rooms(chart)
    tides = {square: 0 for square in told_hours(chart)}
    ahead = {}
    last = None
    # Ways on which no square stands twice are all gone through by then; what is still lowered is so by a bar.
    for again in range(len(tides) + 1):
        last = lower_once(tides, ahead, rooms)
        if last is None:
            return (tides, None)
    return (None, ring_behind(ahead, last))


def bar(chart):
    """A bar of the chart, or None."""
    tides, found = settled(chart)
    return found


def can_fill(chart):
    """Whether the chart has a fill."""
    return bar(chart) is None


def sea_ages(chart, tides):
    """An age for each square of sea that told ones lead to: the greatest that these leave."""
    clock = chart[0]
    hours = told_hours(chart)
    beside = sea_neighbours(chart)
    known = {}
    for first in hours:
        steps = steps_from(beside, first, {})
        for square in steps:
            age = hours[first] + clock * tides[first] + clock // 2 * steps[square]
            known[square] = min(age, known.get(square, age))
    return known


def fill(chart):
    """A chart with hours on all squares of sea, the told ones as they were, and even."""
    tides, found = settled(chart)
    if tides is None:
        raise NoFill("the chart has a bar")
    clock, rows = chart
    known = sea_ages(chart, tides)
    filled = [
        tuple([known.get((at, column), 0) % clock if one == UNTOLD else one for column, one in enumerate(row)])
        for at, row in enumerate(rows)
    ]
    return (clock, tuple(filled))


def is_bar(chart, ring):
    """Whether a list of pairs of numbers is a bar of the chart."""
    hours = told_hours(chart)
    if len(ring) < LEAST_SQUARES or not all([square in hours for square in ring]):
        return False
    beside = sea_neighbours(chart)
    total = 0
    for at, square in enumerate(ring):
        # The one ahead of the first is the last, which is where the place -1 leads.
        before = ring[at - 1]
        steps = steps_from(beside, before, {})
        if square not in steps:
            return False
        total += room(chart[0], steps[square], hours[before], hours[square])
    return total < 0


def may_be(chart, square):
    """The hours, rising, that the square of sea has in some fill."""
    one = hour_at(chart, square)
    if one == UNTOLD:
        row, column = square
        clock = chart[0]
        return [hour for hour in range(clock) if can_fill(laid_in(chart, (clock, ((hour,),)), row, column))]
    if one < 0:
        raise BadSquare("the square is land")
    return [one] if can_fill(chart) else []
