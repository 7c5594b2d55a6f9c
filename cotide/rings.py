"""Rings of squares: their counts, and how often they go round corners."""

from cotide.errors import BadRing
from cotide.grids import told_hours, told_neighbours
from cotide.hours import rounds

LEAST_SQUARES = 2


def is_ring(chart, ring):
    """Whether a list of pairs of numbers is a ring of the chart."""
    beside = told_neighbours(chart)
    if len(ring) < LEAST_SQUARES:
        return False
    # The one ahead of the first is the last, which is where the place -1 leads.
    return all([square in beside.get(ring[at - 1], []) for at, square in enumerate(ring)])


def need_ring(chart, ring):
    """Refuse what is no ring of the chart."""
    if not is_ring(chart, ring):
        raise BadRing("a ring is two or more told squares, each a neighbour of the one ahead")


def ring_count(chart, ring):
    """How often the hours of the ring go round the clock."""
    need_ring(chart, ring)
    hours = told_hours(chart)
    return rounds(chart[0], [hours[square] for square in ring])


def passes(square, other, corner):
    """1 where the step between the squares goes up at the left of the corner, -1 where it goes down there, else 0."""
    row, column = corner
    if square[1] != other[1] or square[1] > column:
        return 0
    if square[0] == row + 1 and other[0] == row:
        return 1
    if square[0] == row and other[0] == row + 1:
        return -1
    return 0


def goes_round(ring, corner):
    """How often the ring goes round the corner, to the right above nought, to the left below it."""
    return sum([passes(ring[at - 1], square, corner) for at, square in enumerate(ring)])


def all_round(ring, square):
    """The squares of the ring, all round, from where this one first stands."""
    at = ring.index(square)
    return ring[at:] + ring[:at]


def joined(chart, ring, other):
    """One ring that goes round as both do, from the first square of the first ring on that the other one has."""
    need_ring(chart, ring)
    need_ring(chart, other)
    shared = [square for square in ring if square in other]
    if not shared:
        raise BadRing("the rings share no square")
    return all_round(ring, shared[0]) + all_round(other, shared[0])
