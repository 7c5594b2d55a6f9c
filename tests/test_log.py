"""Logs: [1], [15], [16] and cotide.log."""

import inspect
import random
import unittest

from books import Book, add_refusals
from cotide import log as module
from cotide.errors import BadClock, BadDay, BadHour, BadSquare, Full, NoEntry, TideError
from cotide.grids import is_chart
from cotide.log import Log
from samples import CLOCKS, FAR, blank

DAYS = (0, 1, 2, 3, 10, 500, 998, 999)


def filled(many=200, clock=13):
    log = Log(clock, 9, 9)
    for at in range(many):
        log.add(at % 9, at // 9 % 9, at % clock, at % 7)
    return log


def pair_drawn(chance, deeds):
    """A log and a plain book to which the same was done."""
    clock, high, wide = chance.choice(CLOCKS), chance.randint(1, 9), chance.randint(1, 9)
    log, book = Log(clock, high, wide), Book(clock, high, wide)
    for _ in range(deeds):
        do_some(chance, log, book)
    return log, book


def do_some(chance, log, book):
    """One deed, good, to both; what both tell."""
    word = chance.choice(("add", "add", "add", "right", "strike"))
    one = chance.randint(-2, book.clock - 1)
    if word == "add" and len(book.rows) < 200:
        arguments = (chance.randrange(book.high), chance.randrange(book.wide), one, chance.choice(DAYS))
        return log.add(*arguments), book.add(*arguments)
    if book.rows and word == "right":
        number = chance.choice(book.numbers())
        return log.right(number, one), book.right(number, one)
    if book.rows and word == "strike":
        number = chance.choice(book.numbers())
        return log.strike(number), book.strike(number)
    return None, None


def state(log):
    """All that a log tells."""
    return (len(log), log.entries(), log.last_day(), [log.chart(day) for day in DAYS], str(log), repr(log), bool(log),
            log.twin().add(0, 0, 0))


class Interface(unittest.TestCase):
    def test_names_and_arguments(self):
        self.assertEqual(str(inspect.signature(Log)), "(clock, high, wide)")
        for name, written in (("add", "(self, row, column, one, day=0)"), ("right", "(self, number, one)"),
                              ("strike", "(self, number)"), ("entries", "(self)"), ("last_day", "(self)"),
                              ("chart", "(self, day=999)"), ("twin", "(self)")):
            self.assertEqual(str(inspect.signature(Log.__dict__[name])), written)
        self.assertEqual(module.Log.__module__, "cotide.log")

    def test_by_names_and_with_things_left_out(self):
        log = Log(wide=3, high=2, clock=5)
        self.assertEqual(log.add(one=4, column=2, row=1), 1)
        self.assertEqual(log.add(day=7, one=-1, column=0, row=0), 2)
        self.assertEqual(log.entries(), [(1, 0, 1, 2, 4), (2, 7, 0, 0, -1)])
        self.assertEqual(log.chart(), (5, ((-1, -2, -2), (-2, -2, 4))))
        self.assertEqual(log.chart(day=6), (5, ((-2, -2, -2), (-2, -2, 4))))
        self.assertIsNone(log.right(one=0, number=1))
        self.assertIsNone(log.strike(number=2))
        self.assertEqual(log.entries(), [(1, 0, 1, 2, 0)])


class NewLogs(unittest.TestCase):
    def test_all_clocks_and_sizes(self):
        for clock in range(-2, 19):
            for high in (-1, 0, 1, 5, 9, 10):
                for wide in (-FAR, 0, 1, 5, 9, 10, FAR):
                    if clock not in CLOCKS:
                        self.assertRaises(BadClock, Log, clock, high, wide)
                    elif high not in range(1, 10) or wide not in range(1, 10):
                        self.assertRaises(BadSquare, Log, clock, high, wide)
                    else:
                        log = Log(clock, high, wide)
                        self.assertEqual(log.chart(), (clock, blank(high, wide, -2)))
                        self.assertEqual([log.entries(), log.last_day(), len(log)], [[], 0, 0])
        self.assertRaises(BadClock, Log, FAR, 0, 0)


class AgainstABook(unittest.TestCase):
    def check(self, log, book):
        entries = book.entries()
        self.assertEqual(log.entries(), entries)
        self.assertEqual(len(log), len(entries))
        self.assertIs(bool(log), bool(entries))
        self.assertEqual(log.last_day(), book.last_day())
        self.assertEqual(str(log), "\n".join(book.lines()))
        self.assertEqual(repr(log), f"<log of {len(entries)}>")
        for day in DAYS:
            self.assertEqual(log.chart(day), book.chart(day))

    def test_many_deeds(self):
        chance = random.Random(71)
        for _ in range(30):
            log, book = pair_drawn(chance, 0)
            for _ in range(25):
                self.assertEqual(*do_some(chance, log, book))
                self.check(log, book)

    def test_many_deeds_on_few_squares(self):
        chance = random.Random(72)
        for _ in range(20):
            log, book = Log(3, 1, 2), Book(3, 1, 2)
            for _ in range(40):
                self.assertEqual(*do_some(chance, log, book))
                self.check(log, book)

    def test_every_refusal_alone_and_several_at_once(self):
        chance = random.Random(73)
        seen = set()
        for _ in range(12):
            log, book = pair_drawn(chance, 20)
            kept = state(log)
            for _ in range(150):
                arguments = (chance.choice((-FAR, -1, 0, book.high - 1, book.high, FAR)),
                             chance.choice((-1, 0, 0, book.wide - 1, book.wide)),
                             chance.choice((-FAR, -3, -2, -1, 0, book.clock - 1, book.clock, FAR)),
                             chance.choice((-FAR, -1, 0, 999, 1000, FAR)))
                due = add_refusals(book, *arguments)
                if due:
                    self.assertRaises(due[0], log.add, *arguments)
                    seen.add(tuple(due))
            for number in (-FAR, -1, 0, book.added + 1, FAR):
                self.assertRaises(NoEntry, log.right, number, 0)
                self.assertRaises(NoEntry, log.right, number, FAR)
                self.assertRaises(NoEntry, log.strike, number)
            for number in book.numbers():
                for one in (-FAR, -3, book.clock, FAR):
                    self.assertRaises(BadHour, log.right, number, one)
            for day in (-FAR, -1, 1000, FAR):
                self.assertRaises(BadDay, log.chart, day)
            self.assertEqual(state(log), kept)
        self.assertEqual(len(seen), 7)


class Numbers(unittest.TestCase):
    def test_from_one_and_never_twice(self):
        log = Log(5, 2, 2)
        self.assertEqual([log.add(0, 0, 1, day) for day in (9, 3, 3)], [1, 2, 3])
        log.strike(3)
        self.assertEqual(log.add(0, 0, 1), 4)
        for number in (1, 2, 4):
            log.strike(number)
        self.assertEqual(log.add(0, 0, 1), 5)
        self.assertEqual(log.entries(), [(5, 0, 0, 0, 1)])

    def test_refused_entries_take_no_number(self):
        log = Log(5, 2, 2)
        for arguments in ((2, 0, 0), (0, 0, 5), (0, 0, 0, 1000)):
            self.assertRaises(TideError, log.add, *arguments)
        self.assertEqual(log.add(0, 0, 0), 1)

    def test_no_entry_tells_how_many_stand(self):
        log = Log(5, 2, 2)
        for many in range(4):
            for act in (lambda: log.strike(99), lambda: log.right(99, 0), lambda: log.right(0, 99)):
                with self.assertRaises(NoEntry) as caught:
                    act()
                self.assertEqual(caught.exception.many, many)
            log.add(0, 0, 0)
        log.strike(2)
        with self.assertRaises(NoEntry) as caught:
            log.strike(2)
        self.assertEqual(caught.exception.many, 3)

    def test_no_entry_is_no_tide_error(self):
        try:
            Log(5, 2, 2).strike(1)
        except LookupError as error:
            self.assertNotIsInstance(error, (TideError, ValueError))

    def test_two_hundred_and_one_more(self):
        log = filled()
        kept = log.entries()
        self.assertEqual(len(log), 200)
        self.assertRaises(Full, log.add, 0, 0, 0)
        self.assertRaises(BadSquare, log.add, 9, 0, 13, 1000)
        self.assertRaises(BadHour, log.add, 0, 0, 13, 1000)
        self.assertRaises(BadDay, log.add, 0, 0, 0, 1000)
        self.assertEqual(log.entries(), kept)
        self.assertRaises(Full, log.twin().add, 0, 0, 0)
        log.right(1, -1)
        log.strike(77)
        self.assertEqual(log.add(0, 0, 0), 201)
        self.assertRaises(Full, log.add, 0, 0, 0)
        log.strike(201)
        self.assertEqual(log.add(0, 0, 0), 202)


class ChartOfADay(unittest.TestCase):
    def test_latest_day_goes_ahead_of_the_greatest_number(self):
        log = Log(5, 1, 1)
        log.add(0, 0, 4, 10)
        log.add(0, 0, 3, 5)
        self.assertEqual([log.chart(day)[1][0][0] for day in (0, 4, 5, 9, 10, 11, 999)], [-2, -2, 3, 3, 4, 4, 4])
        log.add(0, 0, 2, 10)
        log.add(0, 0, 1, 5)
        self.assertEqual([log.chart(day)[1][0][0] for day in (4, 5, 10)], [-2, 1, 2])
        log.right(1, -1)
        self.assertEqual(log.chart()[1][0][0], 2)
        log.strike(3)
        self.assertEqual(log.chart()[1][0][0], -1)

    def test_untold_again(self):
        log = Log(5, 1, 1)
        log.add(0, 0, 4, 1)
        log.add(0, 0, -2, 2)
        self.assertEqual([log.chart(day)[1][0][0] for day in (0, 1, 2)], [-2, 4, -2])

    def test_right_keeps_day_and_number(self):
        log = Log(5, 1, 2)
        log.add(0, 0, 4, 1)
        log.add(0, 0, 3, 1)
        log.right(1, 0)
        self.assertEqual(log.entries(), [(1, 1, 0, 0, 0), (2, 1, 0, 0, 3)])
        self.assertEqual(log.chart(1), (5, ((3, -2),)))

    def test_kinds(self):
        log = filled()
        for day in DAYS:
            chart = log.chart(day)
            self.assertTrue(is_chart(chart))
            self.assertEqual([type(chart), type(chart[1]), {type(row) for row in chart[1]}], [tuple, tuple, {tuple}])
        self.assertIs(type(log.entries()), list)
        self.assertEqual({type(entry) for entry in log.entries()}, {tuple})
        self.assertEqual({type(thing) for entry in log.entries() for thing in entry}, {int})


class Alike(unittest.TestCase):
    def check(self, one, other, wanted):
        self.assertEqual([one == other, other == one, one != other, other != one],
                         [wanted, wanted, not wanted, not wanted])
        for truth in (one == other, one != other):
            self.assertIs(type(truth), bool)

    def test_clock_rows_and_columns(self):
        self.check(Log(5, 2, 3), Log(5, 2, 3), True)
        for other in (Log(7, 2, 3), Log(5, 3, 3), Log(5, 2, 2), Log(5, 3, 2)):
            self.check(Log(5, 2, 3), other, False)

    def test_entries_but_for_the_numbers(self):
        one, other = Log(5, 2, 3), Log(5, 2, 3)
        one.add(0, 0, 1, 4)
        self.check(one, other, False)
        other.add(0, 1, 2, 4)
        self.check(one, other, False)
        other.add(0, 0, 1, 4)
        self.check(one, other, False)
        other.strike(1)
        self.assertNotEqual(one.entries(), other.entries())
        self.check(one, other, True)
        one.add(0, 0, 1, 3)
        other.add(0, 0, 1, 3)
        self.check(one, other, True)
        other.right(3, 2)
        self.check(one, other, False)

    def test_order_within_a_day_counts_and_that_of_days_does_not(self):
        one, other, third = Log(5, 1, 2), Log(5, 1, 2), Log(5, 1, 2)
        for log, some in ((one, ((0, 1), (1, 2))), (other, ((1, 2), (0, 1))), (third, ((0, 1), (1, 2)))):
            for column, day in some:
                log.add(0, column, 3, day)
        self.check(one, other, True)
        self.check(one, third, True)
        for log, columns in ((one, (0, 1)), (other, (1, 0)), (third, (0, 1))):
            for column in columns:
                log.add(0, column, 4, 5)
        self.check(one, third, True)
        self.check(one, other, False)

    def test_same_chart_is_not_enough(self):
        one, other = Log(5, 1, 1), Log(5, 1, 1)
        one.add(0, 0, 2)
        other.add(0, 0, 1)
        other.add(0, 0, 2)
        self.assertEqual(one.chart(), other.chart())
        self.check(one, other, False)
        third = Log(5, 1, 1)
        third.add(0, 0, 2, 1)
        self.check(one, third, False)

    def test_what_is_no_log(self):
        log = Log(5, 2, 3)
        for other in (None, 0, 5, "", "<log of 0>", [], (), (5, 2, 3), {}, log.chart(), log.entries(), True, False,
                      Book(5, 2, 3), object()):
            self.check(log, other, False)
        self.check(log, log, True)

    def test_drawn_logs(self):
        chance = random.Random(74)
        some = [pair_drawn(chance, 6) for _ in range(25)]
        for one, book in some:
            for other, second in some:
                alike = ((book.clock, book.high, book.wide) == (second.clock, second.high, second.wide)
                         and book.lines() == second.lines())
                self.check(one, other, alike)
            self.check(one, one.twin(), True)


class TextsAndTruth(unittest.TestCase):
    def test_some(self):
        log = Log(13, 9, 9)
        self.assertEqual([str(log), repr(log), bool(log), len(log)], ["", "<log of 0>", False, 0])
        log.add(8, 7, 12, 999)
        self.assertEqual([str(log), repr(log), bool(log), len(log)], ["999 8 7 12", "<log of 1>", True, 1])
        log.add(0, 1, -1)
        log.add(0, 1, -2, 5)
        self.assertEqual(str(log), "0 0 1 land\n5 0 1 sea\n999 8 7 12")
        self.assertEqual(f"{log!r} {log}", "<log of 3> 0 0 1 land\n5 0 1 sea\n999 8 7 12")


class Twins(unittest.TestCase):
    def test_next_number_too(self):
        chance = random.Random(75)
        for _ in range(20):
            log, book = pair_drawn(chance, 15)
            twin = log.twin()
            self.assertIs(type(twin), Log)
            self.assertEqual(state(twin), state(log))
            self.assertEqual(twin.add(0, 0, 0), book.added + 1)
            self.assertEqual(log.add(0, 0, 0), book.added + 1)

    def test_they_go_their_own_ways(self):
        log = filled(5)
        twin = log.twin()
        kept = state(log)
        twin.add(0, 0, 0)
        twin.right(1, -1)
        twin.strike(2)
        self.assertEqual(state(log), kept)
        kept = state(twin)
        log.strike(1)
        log.add(1, 1, 1)
        self.assertEqual(state(twin), kept)


class WhatIsTold(unittest.TestCase):
    def test_changed_lists_do_not_change_what_is_told_again(self):
        log = filled(9)
        first = log.entries()
        kept = list(first)
        first.clear()
        self.assertEqual(log.entries(), kept)
        self.assertEqual(len(log), 9)

    def test_questions_change_nothing(self):
        log = filled(30)
        self.assertEqual(state(log), state(log))
        self.assertEqual(log.add(0, 0, 0), 31)

    def test_two_logs_by_turns(self):
        one, other = Log(5, 2, 2), Log(5, 2, 2)
        self.assertEqual([one.add(0, 0, 1), other.add(1, 1, 2), one.add(0, 1, 3)], [1, 1, 2])
        self.assertEqual([one.chart(), other.chart()], [(5, ((1, 3), (-2, -2))), (5, ((-2, -2), (-2, 2)))])


if __name__ == "__main__":
    unittest.main()
