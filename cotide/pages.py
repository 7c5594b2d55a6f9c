"""Texts of charts, of deeds and of whole atlases."""

from cotide.atlas import Atlas
from cotide.errors import BadText, NoEntry, TideError
from cotide.grids import LAND, MOST_SQUARES, UNTOLD, need_chart
from cotide.hours import need_clock
from cotide.words import DEEDS, read_things, thing_text

HOUR_SIGNS = "0123456789abcde"
LAND_SIGN = "#"
UNTOLD_SIGN = "."
TITLE = "atlas"


def sign_of(one):
    """The sign for what a square is."""
    if one == LAND:
        return LAND_SIGN
    if one == UNTOLD:
        return UNTOLD_SIGN
    return HOUR_SIGNS[one]


def chart_text(chart):
    """The chart's rows of signs."""
    need_chart(chart)
    return "\n".join(["".join([sign_of(one) for one in row]) for row in chart[1]])


def read_sign(clock, sign):
    """What a square is by its sign, None where it can be no square's of this clock."""
    if sign == LAND_SIGN:
        return LAND
    if sign == UNTOLD_SIGN:
        return UNTOLD
    hour = HOUR_SIGNS.find(sign)
    return hour if 0 <= hour < clock else None


def read_chart(clock, text):
    """The chart of this clock that rows of signs write."""
    need_clock(clock)
    lines = text.split("\n")
    rows = []
    for at, line in enumerate(lines):
        row = [read_sign(clock, sign) for sign in line]
        if at >= MOST_SQUARES or not 1 <= len(row) <= MOST_SQUARES or len(row) != len(lines[0]) or None in row:
            raise BadText(at)
        rows.append(tuple(row))
    return (clock, tuple(rows))


def deed_text(deed):
    """The words that write a deed."""
    words = [thing_text(kind, thing) for kind, thing in zip(DEEDS[deed[0]], deed[1:])]
    return " ".join([deed[0]] + words)


def read_deed(text):
    """The deed that words write; whether it can be done is not looked at."""
    words = text.split(" ")
    if words[0] not in DEEDS:
        raise BadText(0)
    things = read_things(DEEDS[words[0]], words[1:])
    if things is None:
        raise BadText(0)
    return (words[0], *things)


def page(atlas):
    """The page of an atlas: a row for each deed that stands."""
    return "\n".join([TITLE] + [deed_text(deed) for deed in atlas.deeds()])


def do_line(atlas, line, at):
    """Do the deed that stands on this row of a page."""
    try:
        atlas.do(read_deed(line))
    except (TideError, NoEntry):
        raise BadText(at) from None


def read_page(text):
    """The atlas in which the deeds of a page were done."""
    lines = text.split("\n")
    if lines[0] != TITLE:
        raise BadText(0)
    found = Atlas()
    for at, line in enumerate(lines[1:], start=1):
        do_line(found, line, at)
    return found
