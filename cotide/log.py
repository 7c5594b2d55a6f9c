"""Logs: what was told of a chart's squares, day by day."""

from cotide.errors import BadDay, BadHour, BadSquare, Full, NoEntry
from cotide.grids import MOST_SQUARES, UNTOLD, is_what
from cotide.hours import need_clock
from cotide.words import what_text

LAST_DAY = 999
MOST_ENTRIES = 200


def need_day(day):
    """Refuse what is no day of a log."""
    if not 0 <= day <= LAST_DAY:
        raise BadDay("a day is a number from 0 to 999")


def need_what(clock, one):
    """Refuse what no square can be."""
    if not is_what(clock, one):
        raise BadHour("a square has an hour of the clock, or is -1 or -2")


class Log:
    """The entries about the squares of one chart."""

    def __init__(self, clock, high, wide):
        need_clock(clock)
        if not (1 <= high <= MOST_SQUARES and 1 <= wide <= MOST_SQUARES):
            raise BadSquare("a chart has 1 to 9 rows and columns")
        self.clock = clock
        self.high = high
        self.wide = wide
        self.kept = {}
        self.next_number = 1

    def __len__(self):
        return len(self.kept)

    def __eq__(self, other):
        return isinstance(other, Log) and self.likeness() == other.likeness()

    def __str__(self):
        return "\n".join(self.entry_texts())

    def __repr__(self):
        return f"<log of {len(self.kept)}>"

    def likeness(self):
        """All in which logs that are alike agree: the numbers of entries are not in it, but their order is."""
        told = [(day, row, column, one) for number, day, row, column, one in self.entries()]
        return (self.clock, self.high, self.wide, told)

    def entry_texts(self):
        """A row for each entry, in their order."""
        return [f"{day} {row} {column} {what_text(one)}" for number, day, row, column, one in self.entries()]

    def need_entry(self, number):
        """Refuse a number that no entry has."""
        if number not in self.kept:
            raise NoEntry(len(self.kept))

    def add(self, row, column, one, day=0):
        """Tell on a day what a square is; the entry's number."""
        if not (0 <= row < self.high and 0 <= column < self.wide):
            raise BadSquare("the chart has no such square")
        need_what(self.clock, one)
        need_day(day)
        if len(self.kept) >= MOST_ENTRIES:
            raise Full("200 entries stand already")
        number = self.next_number
        self.kept[number] = (day, row, column, one)
        self.next_number = number + 1
        return number

    def right(self, number, one):
        """Let an entry tell something else."""
        self.need_entry(number)
        need_what(self.clock, one)
        day, row, column, before = self.kept[number]
        self.kept[number] = (day, row, column, one)

    def strike(self, number):
        """Strike an entry."""
        self.need_entry(number)
        del self.kept[number]

    def entries(self):
        """Tuples (number, day, row, column, what) by days, of one day by numbers."""
        found = [(number, day, row, column, one) for number, (day, row, column, one) in self.kept.items()]
        return sorted(found, key=lambda entry: (entry[1], entry[0]))

    def last_day(self):
        """The latest day of an entry, 0 where there is none."""
        return max([entry[1] for entry in self.entries()], default=0)

    def chart(self, day=LAST_DAY):
        """The chart of a day: each square is what the last entry about it up to that day tells."""
        need_day(day)
        rows = [[UNTOLD for column in range(self.wide)] for row in range(self.high)]
        for number, told_on, row, column, one in self.entries():
            if told_on <= day:
                rows[row][column] = one
        return (self.clock, tuple([tuple(row) for row in rows]))

    def twin(self):
        """A log alike, that goes its own way."""
        other = Log(self.clock, self.high, self.wide)
        other.kept = dict(self.kept)
        other.next_number = self.next_number
        return other
