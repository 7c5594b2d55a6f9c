"""Charts and rings for the tests, and what DOC.md says of them written out once more, by other ways.

What is worked out once is kept here, so no test changes a list that these functions tell.
"""

import functools
import math
import random

CLOCKS = (3, 5, 7, 9, 11, 13, 15)
FAR = 10 ** 40 - 1

# Two seas that touch at a corner only, land, and sea that was not told.
MIXED = (13, ((0, 1, -1, 12), (-2, 2, -2, 11), (5, -1, 9, -1)))
ONE = (3, ((0,),))
BARE = (5, ((-1, -2), (-2, -1)))
# Round its one corner the hours go once round the clock, to the right; and the same to the left.
WHIRL = (3, ((0, 1), (0, 2)))
BACK_WHIRL = (3, ((1, 0), (2, 0)))
# Round the land in the middle the hours go twice round the clock.
DOUBLE = (3, ((0, 1, 2), (2, -1, 0), (2, 2, 1)))
# Without a knot: its ages are 0 to 10, round one square of land.
CALM = (5, ((0, 2, 4, 1), (2, -1, 1, 3), (4, 1, 3, 0)))
# The hours of the outer sea go five times round; within its eye lies a sea of its own, a whirl.
NESTED = (3, (
    (0, 1, 2, 0, 1, 2),
    (2, -1, -1, -1, -2, 0),
    (2, -2, 0, 1, -1, 0),
    (1, -1, 0, 2, -2, 1),
    (1, -2, -1, -1, -1, 2),
    (0, 2, 1, 0, 2, 2),
))


def blank(high, wide, one=0):
    return tuple((one,) * wide for _ in range(high))


WRONG_CHARTS = (
    (4, ((0,),)), (2, ((0,),)), (1, ((0,),)), (0, ((0,),)), (-3, ((0,),)), (16, ((0,),)), (17, ((0,),)),
    (FAR, ((0,),)), (-FAR, ((0,),)), (14, ((-1,),)),
    (3, ((3,),)), (3, ((0, 1), (2, 3))), (13, ((13,),)), (13, ((-3,),)), (13, ((0, -3),)), (13, ((FAR,),)),
    (13, ((0,), (-FAR,))), (15, ((15,),)),
    (13, ((0, 1), (0,))), (13, ((0,), (0, 1))), (13, ((0, 1), (0, 1), ())), (13, ((), (0,))),
    (13, ()), (13, ((),)), (13, ((), ())),
    (13, blank(10, 1)), (13, blank(10, 9)), (13, blank(12, 3)),
    (13, blank(1, 10)), (13, blank(9, 10)), (13, blank(10, 10)), (13, blank(3, 11)),
    (4, ()), (0, ((9,), ())),
)


def some_chart(chance):
    clock = chance.choice(CLOCKS)
    high, wide = chance.randint(1, 9), chance.randint(1, 9)
    sign = [-2, -1] * chance.randint(0, clock) + list(range(clock))
    return (clock, tuple(tuple(chance.choice(sign) for _ in range(wide)) for _ in range(high)))


def some_charts():
    chance = random.Random(4)
    return [some_chart(chance) for _ in range(150)] + [MIXED, ONE, BARE]


def known_ages(chance, clock, high, wide):
    """Numbers for all squares, neighbours less than half a clock from one another."""
    half = clock // 2
    rows, columns = [0], [chance.randint(-50, 50)]
    while len(rows) < high:
        rows.append(rows[-1] + chance.randint(-half, half))
    while len(columns) < wide:
        columns.append(columns[-1] + chance.randint(-half, half))
    return [[row + column for column in columns] for row in rows]


def calm_chart(chance, gaps=0.2):
    """A chart without a knot, and numbers with which it was made."""
    clock = chance.choice(CLOCKS)
    numbers = known_ages(chance, clock, chance.randint(1, 9), chance.randint(1, 9))
    rows = tuple(tuple(chance.choice((-1, -2)) if chance.random() < gaps else one % clock for one in row)
                 for row in numbers)
    return (clock, rows), numbers


def calm_charts():
    chance = random.Random(9)
    return [calm_chart(chance, gaps) for gaps in (0, 0.1, 0.3, 0.5) for _ in range(30)]


def sample_charts():
    """Charts of all kinds: wild and calm ones, and those above."""
    return some_charts() + [chart for chart, _ in calm_charts()] + [
        WHIRL, BACK_WHIRL, DOUBLE, CALM, NESTED, (15, blank(9, 9, 14)), (3, blank(1, 9)), (3, blank(9, 1))]


@functools.cache
def told_by_definition(chart):
    return [(r, c) for r in range(9) for c in range(9)
            if r < len(chart[1]) and c < len(chart[1][0]) and chart[1][r][c] >= 0]


@functools.cache
def sides_by_definition(chart):
    squares = told_by_definition(chart)
    return sorted((one, other) for one in squares for other in squares
                  if (other[0] - one[0], other[1] - one[1]) in ((0, 1), (1, 0)))


def firsts_by_definition(places, links):
    """The least place that each leads to: all take that of those beside them until nothing changes."""
    first = {place: place for place in places}
    changed = True
    while changed:
        changed = False
        for one, other in links:
            least = min(first[one], first[other])
            changed = changed or first[one] != first[other]
            first[one] = first[other] = least
    return first


@functools.cache
def seas_by_definition(chart):
    first = firsts_by_definition(told_by_definition(chart), sides_by_definition(chart))
    return [[square for square in sorted(first) if first[square] == lead] for lead in sorted(set(first.values()))]


@functools.cache
def steps_by_search(clock, one, other):
    """Every number below half a clock by which the one hour becomes the other."""
    return [by for by in range(-clock, clock + 1) if 2 * abs(by) < clock and (one + by - other) % clock == 0]


def square_step(chart, one, other):
    """The step between the hours of two told squares."""
    return steps_by_search(chart[0], chart[1][one[0]][one[1]], chart[1][other[0]][other[1]])[0]


def pairs_round(ring):
    """Each square of a ring and the next, the last and the first too."""
    return list(zip(ring, ring[1:] + ring[:1]))


def is_ring_by_definition(chart, ring):
    told = told_by_definition(chart)
    return (len(ring) > 1 and all(square in told for square in ring)
            and all(abs(a[0] - b[0]) + abs(a[1] - b[1]) == 1 for a, b in pairs_round(ring)))


def count_by_steps(chart, ring):
    total = sum(square_step(chart, one, other) for one, other in pairs_round(ring))
    assert total % chart[0] == 0
    return total // chart[0]


def goes_round_by_another_ray(ring, corner):
    """How often the ring goes left below the corner less how often it goes right there."""
    row, column = corner
    below = [(one[1], other[1]) for one, other in pairs_round(ring) if one[0] == other[0] > row]
    return below.count((column + 1, column)) - below.count((column, column + 1))


def corners_by_definition(chart):
    return [(r, c) for r in range(len(chart[1]) - 1) for c in range(len(chart[1][0]) - 1)]


@functools.cache
def eyes_by_definition(chart):
    """Corners all round the rim too stand for the outside: none of the squares beyond it is told."""
    side = {frozenset(pair) for pair in sides_by_definition(chart)}
    places = [(r, c) for r in range(-1, len(chart[1])) for c in range(-1, len(chart[1][0]))]
    links = []
    for r, c in places:
        if (r, c + 1) in places and frozenset([(r, c + 1), (r + 1, c + 1)]) not in side:
            links.append(((r, c), (r, c + 1)))
        if (r + 1, c) in places and frozenset([(r + 1, c), (r + 1, c + 1)]) not in side:
            links.append(((r, c), (r + 1, c)))
    first = firsts_by_definition(places, links)
    leads = sorted(set(first.values()) - {(-1, -1)})
    lots = [[corner for corner in places if first[corner] == lead] for lead in leads]
    return [(lot, eye_count_by_definition(chart, lot)) for lot in lots]


def eye_count_by_definition(chart, lot):
    known = sides_by_definition(chart)
    total = 0
    for r, c in lot:
        for one, other in pairs_round([(r, c), (r, c + 1), (r + 1, c + 1), (r + 1, c)]):
            if (one, other) in known or (other, one) in known:
                total += square_step(chart, one, other)
    assert total % chart[0] == 0
    return total // chart[0]


def ring_about(top, left, bottom, right):
    """The squares round a rectangle, to the right, from the upper left one on."""
    return ([(top, c) for c in range(left, right)] + [(r, right) for r in range(top, bottom)]
            + [(bottom, c) for c in range(right, left, -1)] + [(r, left) for r in range(bottom, top, -1)])


def rings_about(chart):
    """All rings round rectangles that the chart has."""
    told = set(told_by_definition(chart))
    high, wide = len(chart[1]), len(chart[1][0])
    some = [ring_about(top, left, bottom, right) for top in range(high) for left in range(wide)
            for bottom in range(top + 1, high) for right in range(left + 1, wide)]
    return [ring for ring in some if told.issuperset(ring)]


def beside_by_definition(chart):
    beside = {square: [] for square in told_by_definition(chart)}
    for one, other in sides_by_definition(chart):
        beside[one].append(other)
        beside[other].append(one)
    return beside


def way_back(beside, here, home):
    """The squares behind here up to home, by a shortest way."""
    came = {home: None}
    waiting = [home]
    for square in waiting:
        for other in beside[square]:
            if other not in came:
                came[other] = square
                waiting.append(other)
    way = []
    while came[here] is not None:
        here = came[here]
        way.append(here)
    return way


def walked_rings(chart, chance, many=4):
    """Rings that wander about and go home, over squares that they had already, too."""
    beside = beside_by_definition(chart)
    starts = [square for square in beside if beside[square]]
    found = []
    while starts and len(found) < many:
        home = chance.choice(starts)
        walk = [home]
        for _ in range(chance.randint(1, 40)):
            walk.append(chance.choice(beside[walk[-1]]))
        found.append((walk + way_back(beside, walk[-1], home))[:-1])
    return found


def sample_rings(chart, chance):
    """Rings of many kinds: round rectangles, some of them, turned back, wandering, and twice round."""
    about = rings_about(chart)
    some = chance.sample(about, min(6, len(about))) + walked_rings(chart, chance)
    return some + [ring[::-1] for ring in some] + [ring + ring for ring in some]


def drawn_chart(chance, high, wide, clock, land=0.1, untold=0.1):
    """A chart of drawn hours, with so much land and sea that was not told."""
    return (clock, tuple(tuple(-1 if chance.random() < land else -2 if chance.random() < untold
                               else chance.randrange(clock) for _ in range(wide)) for _ in range(high)))


def large_charts():
    """Charts of nine by nine: even and knotted, with land, islands and squares that were not told."""
    chance = random.Random(21)
    found = [drawn_chart(chance, 9, 9, clock, land, untold) for clock in CLOCKS
             for land, untold in ((0, 0), (0.1, 0), (0, 0.1), (0.15, 0.15), (0.3, 0.1), (0.1, 0.5))]
    for clock in CLOCKS:
        numbers = known_ages(chance, clock, 9, 9)
        for gaps in (0, 0.2, 0.6):
            found.append((clock, tuple(tuple(chance.choice((-1, -2)) if chance.random() < gaps else one % clock
                                             for one in row) for row in numbers)))
    return found + [whirling(9, 9, clock) for clock in CLOCKS]


def whirling(high, wide, clock):
    """A chart whose hours go once round its middle; a square just there is land."""
    rows = []
    for row in range(high):
        around = [(2 * row - high + 1, 2 * column - wide + 1) for column in range(wide)]
        rows.append(tuple(int((math.atan2(down, right) / math.tau + 1) * clock) % clock if (down, right) != (0, 0)
                          else -1 for down, right in around))
    return (clock, tuple(rows))


@functools.cache
def parted_by_definition(chart):
    """For each side the two eyes that it parts, by their places, or None for the outside."""
    place = {corner: at for at, (corners, _) in enumerate(eyes_by_definition(chart)) for corner in corners}
    found = []
    for (row, column), (below, _) in sides_by_definition(chart):
        beyond = (row, column - 1) if below > row else (row - 1, column)
        found.append((place.get((row, column)), place.get(beyond)))
    return found


def breaks_by_definition(chart, rows):
    """The breaks of ages, sought number by number."""
    found = []
    for one, other in sides_by_definition(chart):
        on = rows[other[0]][other[1]] - rows[one[0]][one[1]] - square_step(chart, one, other)
        assert on % chart[0] == 0
        if on:
            found.append((one, other, on // chart[0]))
    return found


def hours_alone(chart):
    """Ages without a tide more or less anywhere."""
    return [[None if one < 0 else one for one in row] for row in chart[1]]


def lifted(chart, rows, tides):
    """Ages with tides more or less at some squares."""
    found = [list(row) for row in rows]
    for (row, column), many in tides.items():
        found[row][column] += many * chart[0]
    return found


def at_their_hours(chart, rows):
    """The same ages with whole tides more or less in each sea, so that its first square has its hour."""
    found = [list(row) for row in rows]
    for sea in seas_by_definition(chart):
        first = sea[0]
        off = chart[1][first[0]][first[1]] - rows[first[0]][first[1]]
        for row, column in sea:
            found[row][column] += off
    return found


@functools.cache
def sea_by_definition(chart):
    return [(r, c) for r, row in enumerate(chart[1]) for c, one in enumerate(row) if one != -1]


@functools.cache
def steps_by_definition(chart):
    """The least steps over sea between all pairs of squares where one leads to the other, as they grow."""
    squares = sea_by_definition(chart)
    steps = {(square, square): 0 for square in squares}
    fresh = list(steps)
    while fresh:
        grown = []
        for one, (r, c) in fresh:
            for other in ((r - 1, c), (r, c - 1), (r, c + 1), (r + 1, c)):
                if other in squares and (one, other) not in steps:
                    steps[(one, other)] = steps[(one, (r, c))] + 1
                    grown.append((one, other))
        fresh = grown
    return steps


def room_by_definition(chart, steps, one, other):
    """The greatest number of tides that keeps within the steps."""
    clock, rows = chart
    most = steps[(one, other)] * ((clock - 1) // 2) - rows[other[0]][other[1]] + rows[one[0]][one[1]]
    room = -20
    while (room + 1) * clock <= most:
        room += 1
    assert room > -20
    return room


def is_bar_by_definition(chart, ring, steps):
    told = told_by_definition(chart)
    if len(ring) < 2 or not all(square in told for square in ring):
        return False
    pairs = pairs_round(ring)
    return (all(pair in steps for pair in pairs)
            and sum(room_by_definition(chart, steps, one, other) for one, other in pairs) < 0)


def is_even_by_definition(chart):
    return all(count == 0 for _, count in eyes_by_definition(chart))


def with_hours(chart, hours):
    """The chart with hours at some squares."""
    rows = [list(row) for row in chart[1]]
    for (row, column), hour in hours.items():
        rows[row][column] = hour
    return (chart[0], tuple(tuple(row) for row in rows))
