"""An atlas: charts by names, kept as logs, and the deeds that were done to them."""

from cotide.ages import ages
from cotide.breaks import least_weight
from cotide.errors import BadDeed, BadName, Full, NoChart, NothingLeft, Taken
from cotide.eyes import knots, whole_count
from cotide.fills import bar, fill, may_be
from cotide.grids import UNTOLD
from cotide.log import LAST_DAY, Log
from cotide.patches import need_fit
from cotide.words import DEEDS, is_name

MOST_CHARTS = 8

# The functions below tell a pair: the logs behind a deed, and the number that it tells, or None.
# They change neither the logs that they are handed nor a log among these, so those can be kept for taking back.


def log_of(logs, name):
    """The log of a chart."""
    if name not in logs:
        raise NoChart("no chart has this name")
    return logs[name]


def begin_chart(logs, things):
    """Begin a chart."""
    name, clock, high, wide = things
    if not is_name(name):
        raise BadName("a name is 1 to 8 letters a to z")
    if name in logs:
        raise Taken("a chart has this name")
    begun = Log(clock, high, wide)
    if len(logs) >= MOST_CHARTS:
        raise Full("there are 8 charts already")
    return ({**logs, name: begun}, None)


def tell_square(logs, things):
    """Tell on a day what a square is."""
    name, row, column, one, day = things
    changed = log_of(logs, name).twin()
    number = changed.add(row, column, one, day)
    return ({**logs, name: changed}, number)


def right_entry(logs, things):
    """Put an entry right."""
    name, number, one = things
    changed = log_of(logs, name).twin()
    changed.right(number, one)
    return ({**logs, name: changed}, None)


def strike_entry(logs, things):
    """Strike an entry."""
    name, number = things
    changed = log_of(logs, name).twin()
    changed.strike(number)
    return ({**logs, name: changed}, None)


def drop_chart(logs, things):
    """Drop a chart."""
    name = things[0]
    log_of(logs, name)
    return ({other: logs[other] for other in logs if other != name}, None)


def lay_chart(logs, things):
    """Tell of a chart what another one is on a day, from a square on."""
    name, other, top, left, day = things
    changed = log_of(logs, name).twin()
    patch = log_of(logs, other).chart(day)
    need_fit(changed.chart(day), patch, top, left)
    many = 0
    for at, row in enumerate(patch[1]):
        for column, one in enumerate(row):
            if one != UNTOLD:
                changed.add(top + at, left + column, one, day)
                many += 1
    return ({**logs, name: changed}, many)


ACTIONS = {
    "begin": begin_chart,
    "tell": tell_square,
    "right": right_entry,
    "strike": strike_entry,
    "drop": drop_chart,
    "lay": lay_chart,
}


def need_deed(deed):
    """Refuse a tuple that is no deed."""
    if len(deed) == 0 or deed[0] not in DEEDS or len(deed) != 1 + len(DEEDS[deed[0]]):
        raise BadDeed("no deed has these things")


class Atlas:
    """Charts by names, what was done to them, and what was taken back."""

    def __init__(self):
        self.logs = {}
        # Pairs of a deed and the logs ahead of it; of one that was taken back and the logs behind it.
        self.past = []
        self.ahead = []

    def __len__(self):
        return len(self.logs)

    def do(self, deed):
        """Do a deed; the number that it tells, or None."""
        need_deed(deed)
        action = ACTIONS[deed[0]]
        logs, told = action(self.logs, deed[1:])
        self.past.append((deed, self.logs))
        self.ahead.clear()
        self.logs = logs
        return told

    def begin(self, name, clock=13, high=9, wide=9):
        """Begin a chart."""
        return self.do(("begin", name, clock, high, wide))

    def tell(self, name, row, column, one, day=0):
        """Tell on a day what a square of a chart is; the entry's number."""
        return self.do(("tell", name, row, column, one, day))

    def undo(self):
        """Take the last deed back; the deed."""
        if len(self.past) == 0:
            raise NothingLeft("there is nothing to take back")
        deed, logs = self.past.pop()
        self.ahead.append((deed, self.logs))
        self.logs = logs
        return deed

    def redo(self):
        """Do again what was taken back last; the deed."""
        if len(self.ahead) == 0:
            raise NothingLeft("there is nothing to do again")
        deed, logs = self.ahead.pop()
        self.past.append((deed, self.logs))
        self.logs = logs
        return deed

    def deeds(self):
        """The deeds that stand, in their order."""
        return [deed for deed, logs in self.past]

    def twin(self):
        """An atlas alike, with the same to take back and do again, that goes its own way."""
        other = Atlas()
        other.logs = self.logs
        other.past = list(self.past)
        other.ahead = list(self.ahead)
        return other

    def names(self):
        """The names of the charts, rising."""
        return sorted(self.logs)

    def log(self, name):
        """A twin of a chart's log."""
        return log_of(self.logs, name).twin()

    def days(self, name):
        """The days of a chart's entries, rising, each once."""
        return sorted({entry[1] for entry in log_of(self.logs, name).entries()})

    def chart(self, name, day=LAST_DAY):
        """The chart of a day."""
        return log_of(self.logs, name).chart(day)

    def knots(self, name, day=LAST_DAY):
        """The knotted eyes of the chart of a day."""
        return knots(self.chart(name, day))

    def whole(self, name, day=LAST_DAY):
        """The counts of all eyes of the chart of a day together."""
        return whole_count(self.chart(name, day))

    def ages(self, name, day=LAST_DAY):
        """The ages of the chart of a day."""
        return ages(self.chart(name, day))

    def weight(self, name, day=LAST_DAY):
        """What the least breaks of the chart of a day weigh."""
        return least_weight(self.chart(name, day))

    def fill(self, name, day=LAST_DAY):
        """A fill of the chart of a day."""
        return fill(self.chart(name, day))

    def bar(self, name, day=LAST_DAY):
        """A bar of the chart of a day, or None."""
        return bar(self.chart(name, day))

    def may_be(self, name, row, column, day=LAST_DAY):
        """The hours that a square may have on a day."""
        return may_be(self.chart(name, day), (row, column))
