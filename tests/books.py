"""Logs and atlases once more, kept plainly and slowly, to check against; and deeds to do to both."""

import copy
import re

from cotide.errors import BadClock, BadDay, BadDeed, BadHour, BadName, BadSquare, Full, NoChart, NoEntry, NothingLeft
from cotide.errors import Taken, Unlike
from samples import CLOCKS, FAR

THINGS = {"begin": 5, "tell": 6, "right": 4, "strike": 3, "drop": 2, "lay": 6}
NAMES = ["a", "b", "abcdefgh"]
WRONG_NAMES = ["", "A", "a1", "abcdefghi", "a b", "a-", "Nord", "0", " a", "a\n"]


class Book:
    """The entries of one chart, in the order in which they were added."""

    def __init__(self, clock, high, wide):
        self.clock, self.high, self.wide = clock, high, wide
        self.rows = []
        self.added = 0

    def add(self, row, column, one, day=0):
        self.added += 1
        self.rows.append([self.added, day, row, column, one])
        return self.added

    def numbers(self):
        return [row[0] for row in self.rows]

    def right(self, number, one):
        self.rows[self.numbers().index(number)][4] = one

    def strike(self, number):
        del self.rows[self.numbers().index(number)]

    def entries(self):
        return [tuple(row) for day in range(1000) for row in self.rows if row[1] == day]

    def last_day(self):
        return max([0] + [row[1] for row in self.rows])

    def square(self, row, column, day):
        """What the last entry about a square tells, of those up to the day."""
        about = [entry for entry in self.rows if entry[2:4] == [row, column] and entry[1] <= day]
        latest = [entry for entry in about if entry[1] == max(other[1] for other in about)]
        return max(latest)[4] if latest else -2

    def chart(self, day=999):
        return (self.clock, tuple(tuple(self.square(row, column, day) for column in range(self.wide))
                                  for row in range(self.high)))

    def lines(self):
        words = {-1: "land", -2: "sea"}
        return [f"{day} {row} {column} {words.get(one, one)}" for _, day, row, column, one in self.entries()]


def wrong_what(book, one):
    return not -2 <= one < book.clock


def add_refusals(book, row, column, one, day):
    """All refusals that are due where an entry is added, in their order."""
    return [error for error, due in (
        (BadSquare, not (row in range(book.high) and column in range(book.wide))),
        (BadHour, wrong_what(book, one)),
        (BadDay, day not in range(1000)),
        (Full, len(book.rows) >= 200)) if due]


def begin_refusals(books, name, clock, high, wide):
    return [error for error, due in (
        (BadName, not re.fullmatch("[a-z]{1,8}", name)),
        (Taken, name in books),
        (BadClock, clock not in CLOCKS),
        (BadSquare, high not in range(1, 10) or wide not in range(1, 10)),
        (Full, len(books) >= 8)) if due]


def lay_refusals(books, name, other, top, left, day):
    """All but NoChart."""
    book, patch = books[name], books[other]
    told = 0 if day not in range(1000) else sum(one != -2 for row in patch.chart(day)[1] for one in row)
    return [error for error, due in (
        (BadDay, day not in range(1000)),
        (Unlike, book.clock != patch.clock),
        (BadSquare, top < 0 or left < 0 or top + patch.high > book.high or left + patch.wide > book.wide),
        (Full, len(book.rows) + told > 200)) if due]


def refusals(books, deed):
    """All refusals that are due for a deed, in their order."""
    if not deed or deed[0] not in THINGS or len(deed) != THINGS[deed[0]]:
        return [BadDeed]
    word, name, *rest = deed
    if word == "begin":
        return begin_refusals(books, name, *rest)
    if name not in books or word == "lay" and rest[0] not in books:
        return [NoChart]
    book = books[name]
    if word == "tell":
        return add_refusals(book, *rest)
    if word == "lay":
        return lay_refusals(books, name, *rest)
    due = [NoEntry] if word != "drop" and rest[0] not in book.numbers() else []
    return due + ([BadHour] if word == "right" and wrong_what(book, rest[1]) else [])


class PlainAtlas:
    """Books by names; all that was is kept as deep copies."""

    def __init__(self):
        self.books = {}
        self.past = []
        self.ahead = []

    def do(self, deed):
        due = refusals(self.books, deed)
        if due[:1] == [NoEntry]:
            raise NoEntry(len(self.books[deed[1]].rows))
        if due:
            raise due[0]("due")
        before = copy.deepcopy(self.books)
        told = self.perform(*deed)
        self.past.append((deed, before))
        self.ahead = []
        return told

    def perform(self, word, name, *rest):
        if word == "begin":
            self.books[name] = Book(*rest)
        elif word == "tell":
            return self.books[name].add(*rest)
        elif word == "right":
            self.books[name].right(*rest)
        elif word == "strike":
            self.books[name].strike(*rest)
        elif word == "drop":
            del self.books[name]
        else:
            return self.lay(name, *rest)
        return None

    def lay(self, name, other, top, left, day):
        patch = self.books[other].chart(day)
        told = [(row, column, one) for row, some in enumerate(patch[1]) for column, one in enumerate(some) if one != -2]
        for row, column, one in told:
            self.books[name].add(top + row, left + column, one, day)
        return len(told)

    def undo(self):
        if not self.past:
            raise NothingLeft("due")
        deed, before = self.past.pop()
        self.ahead.append((deed, self.books))
        self.books = before
        return deed

    def redo(self):
        if not self.ahead:
            raise NothingLeft("due")
        deed, behind = self.ahead.pop()
        self.past.append((deed, self.books))
        self.books = behind
        return deed

    def deeds(self):
        return [deed for deed, _ in self.past]


def some_name(chance, wrong=0.05):
    return chance.choice(WRONG_NAMES) if chance.random() < wrong else chance.choice(NAMES)


def some_number(chance, most, wrong=0.08):
    return chance.choice((-FAR, -1, most + 1, most + 7, FAR)) if chance.random() < wrong else chance.randint(0, most)


def some_what(chance, clock=5):
    return chance.choice((-FAR, -3, clock, 15, FAR)) if chance.random() < 0.08 else chance.randint(-2, clock - 1)


def some_day(chance):
    return chance.choice((-FAR, -1, 1000, FAR)) if chance.random() < 0.08 else chance.choice((0, 0, 1, 2, 5, 999))


def some_deed(chance):
    """A deed of any kind, good or refused for one reason or for several, or a tuple that is none."""
    word = chance.choice(["begin"] * 6 + ["tell"] * 20 + ["right"] * 6 + ["strike"] * 4 + ["drop"] + ["lay"] * 6
                         + ["wrong"])
    if word == "begin":
        clock = chance.choice((3, 4, 17, -3, FAR)) if chance.random() < 0.2 else 5
        high, wide = (some_number(chance, 9) if chance.random() < 0.3 else 3 for _ in range(2))
        return (word, some_name(chance, 0.1), clock, high, wide)
    if word == "tell":
        return (word, some_name(chance), some_number(chance, 2), some_number(chance, 2), some_what(chance),
                some_day(chance))
    if word == "right":
        return (word, some_name(chance), some_number(chance, 6), some_what(chance))
    if word == "strike":
        return (word, some_name(chance), some_number(chance, 6))
    if word == "drop":
        return (word, some_name(chance))
    if word == "lay":
        return (word, some_name(chance), some_name(chance), some_number(chance, 1), some_number(chance, 1),
                some_day(chance))
    return chance.choice(WRONG_DEEDS)


WRONG_DEEDS = [
    (), ("",), ("begin",), ("begin", "a", 5, 3), ("begin", "a", 5, 3, 3, 3), ("tell", "a", 0, 0, 1),
    ("tell", "a", 0, 0, 1, 0, 0), ("right", "a", 1), ("right", "a", 1, 0, 0), ("strike", "a"), ("strike", "a", 1, 1),
    ("drop",), ("drop", "a", "b"), ("lay", "a", "b", 0, 0), ("lay", "a", "b", 0, 0, 0, 0), ("Begin", "a", 5, 3, 3),
    ("undo",), ("names",), ("a",), ("tells", "a", 0, 0, 1, 0), ("begin ", "a", 5, 3, 3), ("drop", "none", 1),
]
