"""Breaks: sides at which ages go on by whole tides too much, the least of them, and prices that prove it."""

from cotide.ages import are_ages, gone_on, off_steps, side_steps
from cotide.errors import BadBreaks, BadPrices
from cotide.eyes import eye_corners, eyes
from cotide.grids import sides

# The outside's place beside those of the eyes, which are numbered from 0: the last of a list that is one longer.
OUTSIDE = -1


def weight(breaks):
    """What the numbers of the breaks, without their signs, come to."""
    return sum([abs(tides) for square, other, tides in breaks])


def breaks_of(chart, rows):
    """The breaks of ages, rising."""
    if not are_ages(chart, rows):
        raise BadBreaks("the rows are no ages of the chart")
    off = off_steps(chart, rows)
    return [(square, other, off[(square, other)] // chart[0]) for square, other in off if off[(square, other)] != 0]


def lays(chart, breaks):
    """The ages that have just these breaks, the first square of each sea at its hour."""
    by = side_steps(chart)
    for square, other, tides in breaks:
        if (square, other) not in by:
            raise BadBreaks("a break is at a side")
        by[(square, other)] += tides * chart[0]
    rows = gone_on(chart, by)
    # A side twice, a number nought and a way round that does not close all show as other breaks here.
    if breaks_of(chart, rows) != sorted(breaks):
        raise BadBreaks("no ages have just these breaks")
    return rows


def parted(chart):
    """For each side the places of what it parts: first what is at the right hand from the square to the other."""
    place = {corner: at for at, some in enumerate(eye_corners(chart)) for corner in some}
    found = []
    for square, other in sides(chart):
        row, column = square
        beyond = (row - 1, column) if other[0] == row else (row, column - 1)
        one = place.get(square, OUTSIDE)
        two = place.get(beyond, OUTSIDE)
        found.append((one, two) if other[0] == row else (two, one))
    return found


def ways_from(pairs, tides, start):
    """What one tide more weighs at least from the start to each place, and the last move on the way there.

    A tide that goes over a side against those that went there takes one of them away, so it weighs one less.
    """
    costs = {start: 0}
    moves = {}
    changed = True
    while changed:
        changed = False
        for at, (one, other) in enumerate(pairs):
            for here, there, by in ((one, other, 1), (other, one, -1)):
                if here not in costs:
                    continue
                cost = costs[here] + (1 if tides[at] * by >= 0 else -1)
                if there not in costs or cost < costs[there]:
                    costs[there] = cost
                    moves[there] = (here, at, by)
                    changed = True
    return (costs, moves)


def send_tide(pairs, tides, start, end):
    """Add one tide on a way that weighs the least from the start to the end."""
    costs, moves = ways_from(pairs, tides, start)
    here = end
    while here != start:
        here, at, by = moves[here]
        tides[at] += by


def least_tides(chart, pairs):
    """The tides over each side, from the first place of its pair to the second, that weigh the least.

    As many come to each eye as it counts, from the outside. Each way is one that weighs the least at its time, so
    all that are sent so far weigh the least together.
    """
    tides = [0 for pair in pairs]
    for at, (some, count) in enumerate(eyes(chart)):
        start, end = (OUTSIDE, at) if count > 0 else (at, OUTSIDE)
        for again in range(abs(count)):
            send_tide(pairs, tides, start, end)
    return tides


def least_breaks(chart):
    """Breaks that lay ages and weigh the least, rising."""
    tides = least_tides(chart, parted(chart))
    return [(square, other, many) for (square, other), many in zip(sides(chart), tides) if many != 0]


def least_weight(chart):
    """What the least breaks weigh."""
    return weight(least_breaks(chart))


def prices(chart):
    """Prices that hold and are worth what the least breaks weigh."""
    pairs = parted(chart)
    costs, moves = ways_from(pairs, least_tides(chart, pairs), OUTSIDE)
    return [costs[at] for at in range(len(eyes(chart)))]


def need_prices(chart, some):
    """Refuse prices that are more or fewer than the eyes."""
    if len(some) != len(eyes(chart)):
        raise BadPrices("prices are one number for each eye")


def hold(chart, some):
    """Whether prices differ by one at most across each side, the outside's being nought."""
    need_prices(chart, some)
    known = some + [0]
    return all([abs(known[one] - known[other]) <= 1 for one, other in parted(chart)])


def worth(chart, some):
    """The sum of all counts times prices."""
    need_prices(chart, some)
    return sum([count * price for (corners, count), price in zip(eyes(chart), some)])
