"""Fills and bars: [1], [12], [13] and cotide.fills."""

import functools
import inspect
import itertools
import random
import time
import unittest

from cotide import fills as module
from cotide.errors import BadChart, BadSquare, NoFill
from cotide.fills import bar, can_fill, fill, is_bar, may_be
from cotide.grids import is_chart
from samples import BARE, CALM, CLOCKS, DOUBLE, FAR, MIXED, ONE, WHIRL, WRONG_CHARTS, blank, drawn_chart
from samples import is_bar_by_definition, is_even_by_definition, known_ages, large_charts, pairs_round
from samples import ring_about, room_by_definition, sample_charts, sea_by_definition, steps_by_definition
from samples import told_by_definition, whirling, with_hours

# Three told squares round one square not told: too far apart in hours to close.
LOOSE = (9, ((0, -2, 3), (-2, -2, -2), (6, -2, -2)))
FEW_SECONDS = 3


def hidden_chart(chance, high, wide, clock, gaps, land):
    """An even chart of which some squares are not told, and some are land."""
    numbers = known_ages(chance, clock, high, wide)
    return (clock, tuple(tuple(-1 if chance.random() < land else -2 if chance.random() < gaps else one % clock
                               for one in row) for row in numbers))


def nearly_even(chance, chart):
    """The same chart with another hour at one told square, where it has one."""
    told = told_by_definition(chart)
    return with_hours(chart, {chance.choice(told): chance.randrange(chart[0])}) if told else chart


@functools.cache
def charts():
    chance = random.Random(41)
    found = sample_charts() + large_charts() + [LOOSE]
    for gaps in (0.1, 0.3, 0.5, 0.7, 0.9, 0.97):
        for land in (0, 0.1, 0.3):
            for high, wide in ((9, 9), (chance.randint(2, 9), chance.randint(2, 9))):
                clock = chance.choice(CLOCKS)
                hidden = hidden_chart(chance, high, wide, clock, gaps, land)
                found += [hidden, nearly_even(chance, hidden), drawn_chart(chance, high, wide, clock, land, gaps)]
    return found + whirls_with_gaps(chance) + broken_rings(chance)


def whirls_with_gaps(chance):
    """Charts whose hours go once round the middle, where some of the squares there are not told."""
    found = []
    for many in (2, 3, 4, 5, 9):
        for clock in CLOCKS:
            chart = whirling(many, many, clock)
            for square in chance.sample(told_by_definition(chart), max(1, many * many // 6)):
                chart = with_hours(chart, {square: -2})
            found.append(chart)
    return found


def broken_rings(chance):
    """Charts without an eye, told along the rim alone and not all round, with hours that mostly go on."""
    found = []
    for _ in range(60):
        clock, high, wide = chance.choice(CLOCKS), chance.randint(3, 9), chance.randint(3, 9)
        ring = ring_about(0, 0, high - 1, wide - 1)
        number, hours = 0, {}
        for square in ring[:-chance.randint(1, 3)]:
            number += chance.randint(-1, clock // 2)
            hours[square] = number % clock
        found.append(with_hours((clock, blank(high, wide, chance.choice((-2, -2, -1)))), {ring[-1]: -2, **hours}))
    return found


def rings_over_gaps(chart, chance, many):
    """The told squares of rings round rectangles."""
    found = []
    for _ in range(many if min(len(chart[1]), len(chart[1][0])) > 1 else 0):
        top, bottom = sorted(chance.sample(range(len(chart[1])), 2))
        left, right = sorted(chance.sample(range(len(chart[1][0])), 2))
        told = told_by_definition(chart)
        found.append([square for square in ring_about(top, left, bottom, right) if square in told])
    return found + [ring[::-1] for ring in found]


def small_charts(chance, many):
    """Charts whose fills can all be tried: at most four squares are not told."""
    found = []
    while len(found) < many:
        clock = chance.choice((3, 3, 5, 7))
        chart = drawn_chart(chance, chance.randint(1, 3), chance.randint(1, 4), clock, 0.1, 0.3)
        untold = [square for square in sea_by_definition(chart) if square not in told_by_definition(chart)]
        if len(untold) <= (4 if clock == 3 else 3 if clock == 5 else 2):
            found.append((chart, untold))
    return found


def fills_by_trying(chart, untold):
    return [one for one in (with_hours(chart, dict(zip(untold, hours)))
                            for hours in itertools.product(range(chart[0]), repeat=len(untold)))
            if is_even_by_definition(one)]


def is_fill(chart, found):
    """Whether it has all told squares and land as they were, hours on all sea, and is even."""
    clock, rows = found
    return (is_chart(found) and clock == chart[0] and [len(row) for row in rows] == [len(row) for row in chart[1]]
            and all(new >= 0 if old == -2 else new == old
                    for new_row, old_row in zip(rows, chart[1]) for new, old in zip(new_row, old_row))
            and is_even_by_definition(found))


class Interface(unittest.TestCase):
    def test_names_and_arguments(self):
        for name, written in (("fill", "(chart)"), ("can_fill", "(chart)"), ("bar", "(chart)"),
                              ("is_bar", "(chart, ring)"), ("may_be", "(chart, square)")):
            self.assertEqual(str(inspect.signature(getattr(module, name))), written)
            self.assertEqual(getattr(module, name).__module__, "cotide.fills")

    def test_by_names(self):
        self.assertEqual(fill(chart=CALM), CALM)
        self.assertIs(can_fill(chart=CALM), True)
        self.assertIsNone(bar(chart=CALM))
        self.assertIs(is_bar(ring=[(0, 0), (0, 1)], chart=CALM), False)
        self.assertEqual(may_be(square=(0, 1), chart=CALM), [2])


class FillsAndBars(unittest.TestCase):
    def test_whole_charts_are_their_own_fills(self):
        for chart in (ONE, CALM, (15, blank(9, 9, 14)), (3, blank(2, 2, -1))):
            self.assertEqual([fill(chart), can_fill(chart), bar(chart)], [chart, True, None])

    def test_knotted_charts_have_bars(self):
        for chart in (WHIRL, DOUBLE):
            self.assertIs(can_fill(chart), False)
            self.assertRaises(NoFill, fill, chart)
            self.assertIs(is_bar(chart, bar(chart)), True)

    def test_chart_without_told_squares(self):
        for chart in (BARE, (13, blank(9, 9, -2)), (3, blank(1, 1, -2)), (3, blank(9, 9, -1)), (3, ((-2, -1, -2),))):
            self.assertIsNone(bar(chart))
            self.assertIs(can_fill(chart), True)
            self.assertTrue(is_fill(chart, fill(chart)))

    def test_one_told_square(self):
        for clock in CLOCKS:
            chart = with_hours((clock, blank(9, 9, -2)), {(4, 7): clock - 1})
            self.assertIsNone(bar(chart))
            self.assertTrue(is_fill(chart, fill(chart)))

    def test_far_enough_and_not(self):
        # Round one square of land the hours go once round a clock of three, in eight steps of one hour at most.
        chart = (3, ((0, -2, 1), (-2, -1, -2), (-2, -2, 2)))
        self.assertIs(can_fill(chart), True)
        self.assertTrue(is_fill(chart, fill(chart)))
        self.assertIs(can_fill(LOOSE), True)
        barred = (9, ((0, -2, 3), (6, -2, -2)))
        self.assertEqual(can_fill(barred), bool(fills_by_trying(barred, [(0, 1), (1, 1), (1, 2)])))

    def test_land_parts(self):
        self.assertIs(can_fill((3, ((0, -1, 1), (0, -1, 2)))), True)
        self.assertIs(can_fill((3, ((0, -2, 1), (0, -1, 2)))), True)

    def test_just_one_of_both_is_there(self):
        free = 0
        for chart in charts():
            found = bar(chart)
            self.assertIs(can_fill(chart), found is None)
            if found is None:
                self.assertTrue(is_fill(chart, fill(chart)), chart)
                free += 1
            else:
                self.assertRaises(NoFill, fill, chart)
                self.assertIs(is_bar(chart, found), True)
                self.assertIs(is_bar_by_definition(chart, found, steps_by_definition(chart)), True)
        self.assertGreater(free, 150)
        self.assertGreater(len(charts()) - free, 100)

    def test_bars_where_squares_are_not_told(self):
        some = [chart for chart in charts() if not can_fill(chart) and is_even_by_definition(chart)]
        self.assertGreater(len(some), 15)

    def test_hidden_charts_have_fills(self):
        chance = random.Random(42)
        for gaps in (0.1, 0.5, 0.8, 0.95):
            for clock in CLOCKS:
                chart = hidden_chart(chance, 9, 9, clock, gaps, 0.1)
                self.assertIsNone(bar(chart))
                self.assertTrue(is_fill(chart, fill(chart)))

    def test_small_charts_by_trying(self):
        tried = [0, 0]
        for chart, untold in small_charts(random.Random(43), 250):
            wanted = bool(fills_by_trying(chart, untold))
            self.assertIs(can_fill(chart), wanted, chart)
            self.assertIs(bar(chart) is None, wanted)
            tried[wanted] += 1
            if wanted:
                self.assertIn(fill(chart), fills_by_trying(chart, untold))
        self.assertGreater(min(tried), 15)

    def test_kinds(self):
        for chart in charts()[::3]:
            found = bar(chart)
            if found is None:
                filled = fill(chart)
                self.assertEqual([type(filled), type(filled[1]), type(can_fill(chart))], [tuple, tuple, bool])
                self.assertEqual({type(row) for row in filled[1]}, {tuple})
                self.assertEqual({type(one) for row in filled[1] for one in row}, {int})
            else:
                self.assertEqual([type(found), {type(square) for square in found}], [list, {tuple}])

    def test_nine_by_nine_within_a_few_seconds(self):
        for chart in charts():
            if len(chart[1]) == len(chart[1][0]) == 9:
                begun = time.perf_counter()
                found = bar(chart)
                if found is None:
                    fill(chart)
                else:
                    is_bar(chart, found)
                may_be(chart, sea_by_definition(chart)[-1])
                self.assertLess(time.perf_counter() - begun, FEW_SECONDS)


class IsBar(unittest.TestCase):
    def check(self, chart, ring):
        kept = list(ring)
        wanted = is_bar_by_definition(chart, ring, steps_by_definition(chart))
        self.assertIs(is_bar(chart, ring), wanted, (chart, ring))
        self.assertEqual(ring, kept)
        return wanted

    def test_some(self):
        around = [(0, 0), (0, 1), (1, 1), (1, 0)]
        self.assertIs(is_bar(WHIRL, around), False)
        self.assertIs(is_bar(WHIRL, around[::-1]), True)
        self.assertIs(is_bar(WHIRL, around[::-1] * 2), True)
        self.assertIs(is_bar(WHIRL, around + around[::-1]), False)
        self.assertIs(is_bar(CALM, [(0, 0), (0, 1), (0, 2)]), False)

    def test_none_one_and_the_same_again(self):
        for chart in (WHIRL, ONE, BARE, DOUBLE):
            self.assertIs(is_bar(chart, []), False)
            for square in sea_by_definition(chart):
                for many in (1, 2, 3):
                    self.assertIs(is_bar(chart, [square] * many), False)

    def test_square_that_stands_twice_side_by_side(self):
        for chart in charts():
            found = bar(chart)
            if found is not None:
                for at in range(len(found)):
                    self.assertIs(is_bar(chart, found[:at] + [found[at]] + found[at:]), True)

    def test_bars_turned_about_and_from_another_square_on(self):
        for chart in charts():
            found = bar(chart)
            if found is not None:
                for at in range(len(found)):
                    self.assertIs(is_bar(chart, found[at:] + found[:at]), True)
                self.check(chart, found[::-1])
                self.assertIs(is_bar(chart, found + found), True)

    def test_bars_bent(self):
        chance = random.Random(44)
        kinds = [0, 0]
        for chart in charts():
            found = bar(chart)
            if found is None:
                continue
            told = told_by_definition(chart)
            for at in range(len(found)):
                for ring in (found[:at] + found[at + 1:], found[:at] + [chance.choice(told)] + found[at + 1:],
                             found[:at] + [chance.choice(told)] + found[at:]):
                    kinds[self.check(chart, ring)] += 1
                for wrong in ((-1, 0), (0, -1), (9, 0), (0, 9), (FAR, -FAR), (-9, -9)):
                    self.assertIs(is_bar(chart, found[:at] + [wrong] + found[at + 1:]), False)
                    self.assertIs(is_bar(chart, found[:at] + [wrong] + found[at:]), False)
        self.assertGreater(min(kinds), 50)

    def test_squares_not_told(self):
        for chart in charts():
            found = bar(chart)
            if found is not None:
                told = told_by_definition(chart)
                for row in range(len(chart[1])):
                    for column in range(len(chart[1][0])):
                        if (row, column) not in told:
                            self.assertIs(is_bar(chart, found + [(row, column)]), False)

    def test_squares_that_land_parts(self):
        chart = (3, ((0, 1, -1, 0), (0, 2, -1, 0)))
        around = [(0, 0), (1, 0), (1, 1), (0, 1)]
        self.assertIs(is_bar(chart, around), True)
        self.assertIs(is_bar(chart, around + [(0, 3)]), False)
        self.assertIs(is_bar(chart, [(0, 3)] + around + [(1, 3)]), False)

    def test_drawn_rings(self):
        chance = random.Random(45)
        kinds = [0, 0]
        for chart in charts():
            told = told_by_definition(chart)
            for many in (2, 3, 4, 6):
                if told:
                    self.check(chart, [chance.choice(told) for _ in range(many)])
            for ring in rings_over_gaps(chart, chance, 6):
                kinds[self.check(chart, ring)] += 1
        self.assertGreater(min(kinds), 100)

    def test_no_ring_is_a_bar_where_there_is_a_fill(self):
        chance = random.Random(46)
        for chart in charts():
            told = told_by_definition(chart)
            if can_fill(chart) and told:
                for many in (2, 3, 5, 9):
                    self.assertIs(is_bar(chart, [chance.choice(told) for _ in range(many)]), False)

    def test_room_is_rounded_down(self):
        # Of a clock of five: two steps leave four hours, so from 0 to 1 no tide is left over either way round.
        chart = (5, ((0, -2, 1),))
        steps = steps_by_definition(chart)
        self.assertEqual([room_by_definition(chart, steps, *pair) for pair in pairs_round([(0, 0), (0, 2)])], [0, 1])
        self.assertIs(is_bar(chart, [(0, 0), (0, 2)]), False)
        # Round three squares the rooms come to one less than nought, though each is rounded down by less than one.
        barred = (3, ((0, 1), (-1, 2)))
        self.check(barred, [(0, 0), (0, 1), (1, 1)])
        self.check(barred, [(1, 1), (0, 1), (0, 0)])


class MayBe(unittest.TestCase):
    def test_told_square(self):
        for chart in charts()[::2]:
            for square in told_by_definition(chart)[::9]:
                wanted = [chart[1][square[0]][square[1]]] if can_fill(chart) else []
                self.assertEqual(may_be(chart, square), wanted)

    def test_some(self):
        self.assertEqual(may_be((5, ((0, -2),)), (0, 1)), [0, 1, 2, 3, 4])
        self.assertEqual(may_be((3, ((-2,),)), (0, 0)), [0, 1, 2])
        self.assertEqual(may_be((9, ((0, -2, 4),)), (0, 1)), [0, 1, 2, 3, 4, 5, 6, 7, 8])
        self.assertEqual(may_be((3, ((0, 1, -2), (0, 2, -2))), (0, 2)), [])

    def test_small_charts_by_trying(self):
        some = set()
        for chart, untold in small_charts(random.Random(47), 200):
            found = fills_by_trying(chart, untold)
            for row, column in sea_by_definition(chart):
                hours = may_be(chart, (row, column))
                self.assertEqual(hours, sorted({one[1][row][column] for one in found}), (chart, row, column))
                some.add(len(hours))
        self.assertLess({0, 1, 2, 3}, some)

    def test_each_hour_tried_by_filling(self):
        chance = random.Random(48)
        for chart in charts()[::4]:
            untold = [square for square in sea_by_definition(chart) if square not in told_by_definition(chart)]
            for square in chance.sample(untold, min(3, len(untold))):
                wanted = [hour for hour in range(chart[0]) if can_fill(with_hours(chart, {square: hour}))]
                self.assertEqual(may_be(chart, square), wanted)

    def test_the_hour_that_a_fill_has(self):
        for chart in charts()[::3]:
            if can_fill(chart):
                found = fill(chart)
                for row, column in sea_by_definition(chart)[::7]:
                    self.assertIn(found[1][row][column], may_be(chart, (row, column)))

    def test_land_and_beyond(self):
        for chart in charts()[::2] + [MIXED, BARE]:
            high, wide = len(chart[1]), len(chart[1][0])
            land = [(r, c) for r in range(high) for c in range(wide) if chart[1][r][c] == -1]
            for square in land + [(-1, 0), (0, -1), (high, 0), (0, wide), (-1, -1), (FAR, 0), (0, -FAR), (9, 9)]:
                self.assertRaises(BadSquare, may_be, chart, square)

    def test_kinds(self):
        for chart in (LOOSE, (5, ((0, -2),)), CALM):
            self.assertIs(type(may_be(chart, (0, 1))), list)
            self.assertEqual({type(hour) for hour in may_be(chart, (0, 1))}, {int})


class WhatIsHandedInAndTold(unittest.TestCase):
    def test_wrong_charts_go_first(self):
        for chart in WRONG_CHARTS:
            for function in (fill, can_fill, bar):
                self.assertRaises(BadChart, function, chart)
            for ring in ([], [(0, 0)], [(0, 0), (0, 1)], [(FAR, 0), (0, -1)]):
                self.assertRaises(BadChart, is_bar, chart, ring)
            for square in ((0, 0), (-1, 0), (0, 9), (FAR, -FAR)):
                self.assertRaises(BadChart, may_be, chart, square)

    def test_changed_lists_do_not_change_what_is_told_again(self):
        for function, arguments in ((bar, (WHIRL,)), (bar, (DOUBLE,)), (may_be, (LOOSE, (0, 1))),
                                    (may_be, (CALM, (0, 1)))):
            first = function(*arguments)
            kept = list(first)
            self.assertNotEqual(kept, [])
            first.clear()
            self.assertEqual(function(*arguments), kept)

    def test_asked_again_is_told_alike(self):
        for chart in charts()[::5]:
            self.assertEqual(bar(chart), bar(chart))
            if can_fill(chart):
                self.assertEqual(fill(chart), fill(chart))
        for _ in range(2):
            self.assertRaises(NoFill, fill, WHIRL)


if __name__ == "__main__":
    unittest.main()
