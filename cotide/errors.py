"""The refusals: each kind has a class of its own."""


class TideError(ValueError):
    """Any refusal but NoEntry."""


class BadClock(TideError):
    """No number of hours that a clock can have."""


class BadHour(TideError):
    """No hour of the clock, or nothing that a square can be."""


class BadChart(TideError):
    """No chart."""


class BadSquare(TideError):
    """No square or corner of the chart, or squares that do not lie within it."""


class BadRing(TideError):
    """No ring of the chart."""


class BadBreaks(TideError):
    """Breaks that lay no ages, or rows that are none."""


class BadPrices(TideError):
    """Prices that are more or fewer than the eyes."""


class NoFill(TideError):
    """A chart without a fill."""


class Unlike(TideError):
    """Charts of other clocks."""


class BadName(TideError):
    """No name that a chart can have."""


class Taken(TideError):
    """A name that a chart has already."""


class Full(TideError):
    """One chart or entry too many."""


class NoChart(TideError):
    """A name that no chart has."""


class BadDay(TideError):
    """No day of a log."""


class BadDeed(TideError):
    """A tuple that is no deed."""


class NothingLeft(TideError):
    """Nothing to take back, or to do again."""


class Knotted(TideError):
    """A chart that is not even: so many of its eyes are knotted."""

    def __init__(self, many):
        TideError.__init__(self, f"{many} eyes are knotted")
        self.many = many


class BadText(TideError):
    """A text that cannot be read: this row, from 0, is the first that is wrong."""

    def __init__(self, row):
        TideError.__init__(self, f"row {row} is wrong")
        self.row = row


class NoEntry(LookupError):
    """A number that no entry has: so many entries stand."""

    def __init__(self, many):
        LookupError.__init__(self, f"no such entry among {many}")
        self.many = many
