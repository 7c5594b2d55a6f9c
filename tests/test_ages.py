"""Ages: [1], [9] and cotide.ages."""

import inspect
import random
import unittest

from cotide import ages as module
from cotide.ages import ages, even, is_laid
from cotide.errors import BadChart, Knotted
from samples import BACK_WHIRL, BARE, CALM, DOUBLE, FAR, MIXED, NESTED, ONE, WHIRL, WRONG_CHARTS, blank, calm_charts
from samples import eyes_by_definition, sample_charts, seas_by_definition, sides_by_definition, square_step
from samples import told_by_definition

CALM_AGES = [[0, 2, 4, 6], [2, None, 6, 8], [4, 6, 8, 10]]
# One row in which the hours go back below nought, two seas, land and a square that was not told.
FALLING = (5, ((1, 4, 2, 0, -1, 3, 1, -2),))
FALLING_AGES = [[1, -1, -3, -5, None, 3, 1, None]]


def copied(rows):
    return [list(row) for row in rows]


def at(rows, square):
    return rows[square[0]][square[1]]


def raised(rows, squares, by):
    found = copied(rows)
    for row, column in squares:
        found[row][column] += by
    return found


def many_knots(chart):
    return len([count for _, count in eyes_by_definition(chart) if count])


def is_laid_by_definition(chart, rows):
    clock, known = chart
    if [len(row) for row in rows] != [len(row) for row in known]:
        return False
    told = told_by_definition(chart)
    for row in range(len(known)):
        for column in range(len(known[0])):
            if (rows[row][column] is not None) != ((row, column) in told):
                return False
    return (all((at(rows, square) - at(known, square)) % clock == 0 for square in told)
            and all(at(rows, other) - at(rows, one) == square_step(chart, one, other)
                    for one, other in sides_by_definition(chart)))


EVEN_CHARTS = [chart for chart in sample_charts() if many_knots(chart) == 0]
KNOTTED_CHARTS = [chart for chart in sample_charts() if many_knots(chart) > 0]


class Interface(unittest.TestCase):
    def test_names_and_arguments(self):
        for name, written in (("even", "(chart)"), ("ages", "(chart)"), ("is_laid", "(chart, rows)")):
            self.assertEqual(str(inspect.signature(getattr(module, name))), written)
            self.assertEqual(getattr(module, name).__module__, "cotide.ages")

    def test_by_names(self):
        self.assertIs(even(chart=CALM), True)
        self.assertEqual(ages(chart=CALM), CALM_AGES)
        self.assertIs(is_laid(rows=CALM_AGES, chart=CALM), True)


class Even(unittest.TestCase):
    def test_some(self):
        for chart in (CALM, FALLING, ONE, BARE, MIXED, (3, blank(9, 9)), (3, blank(9, 9, -1))):
            self.assertIs(even(chart), True)
        for chart in (WHIRL, BACK_WHIRL, DOUBLE, NESTED):
            self.assertIs(even(chart), False)

    def test_counts_that_cancel_out_are_knots_all_the_same(self):
        self.assertIs(even((3, ((0, 1, 0), (0, 2, 0)))), False)

    def test_just_where_no_eye_is_knotted(self):
        for chart in sample_charts():
            self.assertIs(even(chart), many_knots(chart) == 0)
        self.assertGreater(len(EVEN_CHARTS), 100)
        self.assertGreater(len(KNOTTED_CHARTS), 50)


class Ages(unittest.TestCase):
    def test_some(self):
        self.assertEqual(ages(CALM), CALM_AGES)
        self.assertEqual(ages(FALLING), FALLING_AGES)
        self.assertEqual(ages(ONE), [[0]])
        self.assertEqual(ages(BARE), [[None, None], [None, None]])
        self.assertEqual(ages(MIXED), [[0, 1, None, 12], [None, 2, None, 11], [5, None, 9, None]])
        self.assertEqual(ages((3, ((2,),))), [[2]])
        self.assertEqual(ages((15, blank(9, 9, 14))), [[14] * 9] * 9)

    def test_beyond_the_clock_and_below_nought(self):
        self.assertEqual(ages((3, (tuple(number % 3 for number in range(2, 11)),))), [list(range(2, 11))])
        self.assertEqual(ages((3, tuple((-number % 3,) for number in range(9)))), [[-number] for number in range(9)])
        self.assertEqual(ages((15, ((14, 6, 13, 5),))), [[14, 21, 28, 35]])

    def test_first_square_of_a_sea_is_first_row_by_row(self):
        self.assertEqual(ages((3, ((-1, 2), (2, 0), (1, -2)))), [[None, 2], [2, 3], [1, None]])
        self.assertEqual(ages((5, ((-2, -1, 4), (3, 2, 1)))), [[None, None, 4], [8, 7, 6]])
        winding = (5, ((4, -1, 2), (2, -1, 4), (0, 3, 1)))
        self.assertEqual(ages(winding), [[4, None, -8], [2, None, -6], [0, -2, -4]])

    def test_each_sea_begins_at_its_hour(self):
        for chart in EVEN_CHARTS:
            found = ages(chart)
            for sea in seas_by_definition(chart):
                self.assertEqual(at(found, sea[0]), at(chart[1], sea[0]))

    def test_they_are_laid(self):
        for chart in EVEN_CHARTS:
            self.assertIs(is_laid_by_definition(chart, ages(chart)), True)

    def test_the_numbers_that_charts_were_made_with(self):
        for chart, numbers in calm_charts():
            found = ages(chart)
            wanted = [[None] * len(row) for row in numbers]
            for sea in seas_by_definition(chart):
                off = at(chart[1], sea[0]) - at(numbers, sea[0])
                for row, column in sea:
                    wanted[row][column] = numbers[row][column] + off
            self.assertEqual(found, wanted)

    def test_numbers_go_beyond_and_below(self):
        every = [(chart[0], one) for chart in EVEN_CHARTS for row in ages(chart) for one in row if one is not None]
        self.assertTrue(any(one > 2 * clock for clock, one in every))
        self.assertTrue(any(one < -clock for clock, one in every))

    def test_kinds(self):
        for chart in EVEN_CHARTS:
            found = ages(chart)
            self.assertIs(type(found), list)
            self.assertTrue(all(type(row) is list for row in found))
            self.assertEqual({type(one) for row in found for one in row} - {int, type(None)}, set())

    def test_knotted_with_how_many(self):
        for chart, many in ((WHIRL, 1), (BACK_WHIRL, 1), (DOUBLE, 1), (NESTED, 2), ((3, ((0, 1, 0), (0, 2, 0))), 2)):
            with self.assertRaises(Knotted) as caught:
                ages(chart)
            self.assertEqual(caught.exception.many, many)

    def test_knotted_charts(self):
        for chart in KNOTTED_CHARTS:
            with self.assertRaises(Knotted) as caught:
                ages(chart)
            self.assertEqual(caught.exception.many, many_knots(chart))


class IsLaid(unittest.TestCase):
    def check(self, chart, rows, wanted):
        kept = copied(rows)
        self.assertIs(is_laid(chart, rows), wanted, (chart, rows))
        self.assertIs(is_laid_by_definition(chart, rows), wanted)
        self.assertEqual(rows, kept)

    def test_told_ages(self):
        for chart in EVEN_CHARTS:
            self.check(chart, ages(chart), True)

    def test_tides_more_all_over_each_sea(self):
        chance = random.Random(14)
        for chart in EVEN_CHARTS:
            rows = ages(chart)
            for sea in seas_by_definition(chart):
                rows = raised(rows, sea, chance.choice((-7, -1, 0, 1, 2, FAR // 100)) * chart[0])
                self.check(chart, rows, True)

    def test_up_to_forty_figures(self):
        for tides in (10 ** 38, -10 ** 38, 10 ** 38 + 1):
            more = raised(CALM_AGES, told_by_definition(CALM), 5 * tides)
            self.check(CALM, more, True)
            self.check(CALM, raised(more, [(2, 3)], 1), False)
            self.check(CALM, raised(more, [(0, 0)], 5), False)
            self.check(CALM, raised(more, [(0, 0)], -5 * tides), False)

    def test_no_whole_tides_more_all_over_a_sea(self):
        for chart in EVEN_CHARTS:
            for sea in seas_by_definition(chart):
                for by in (1, -1, chart[0] - 1, chart[0] + 1, chart[0] // 2, 10 * chart[0] + 2):
                    self.check(chart, raised(ages(chart), sea, by), False)

    def test_one_number_other_than_it_should_be(self):
        chance = random.Random(15)
        for chart in EVEN_CHARTS:
            for square in told_by_definition(chart)[::4]:
                self.check(chart, raised(ages(chart), [square], chance.choice((-3, -1, 1, 3)) * chart[0] + 1), False)
                self.check(chart, raised(ages(chart), [square], chance.choice((-2, -1, 1, 2))), False)

    def test_a_tide_more_at_one_square(self):
        for chart in EVEN_CHARTS:
            alone = [sea[0] for sea in seas_by_definition(chart) if len(sea) == 1]
            for square in told_by_definition(chart)[::3]:
                for by in (chart[0], -chart[0]):
                    self.check(chart, raised(ages(chart), [square], by), square in alone)

    def test_none_and_numbers_in_the_wrong_places(self):
        for chart in EVEN_CHARTS:
            told = told_by_definition(chart)
            for row in range(len(chart[1])):
                for column in range(0, len(chart[1][0]), 3):
                    if (row, column) in told:
                        rows = ages(chart)
                        rows[row][column] = None
                        self.check(chart, rows, False)
                    else:
                        for number in (0, chart[1][row][column], chart[0] + chart[1][row][column]):
                            rows = ages(chart)
                            rows[row][column] = number
                            self.check(chart, rows, False)

    def test_a_row_or_square_left_out_or_too_many(self):
        for chart in EVEN_CHARTS:
            rows = ages(chart)
            self.check(chart, rows[:-1], False)
            self.check(chart, rows[1:], False)
            self.check(chart, rows + [[None] * len(rows[0])], False)
            self.check(chart, rows + rows[-1:], False)
            self.check(chart, rows + [[]], False)
            for place in (0, len(rows) - 1):
                for row in (rows[place][:-1], rows[place] + [None], rows[place] + rows[place][-1:], []):
                    self.check(chart, rows[:place] + [row] + rows[place + 1:], False)
        self.check(ONE, [], False)
        self.check(ONE, [[]], False)
        self.check(BARE, [], False)

    def test_rows_and_columns_exchanged(self):
        chart = (3, ((0, 0, 0), (0, 0, 0)))
        self.check(chart, [[0, 0], [0, 0], [0, 0]], False)

    def test_nothing_is_laid_on_knotted_charts(self):
        for chart in KNOTTED_CHARTS:
            rows = [[None if one < 0 else one for one in row] for row in chart[1]]
            self.check(chart, rows, False)

    def test_tides_exchanged_between_two_seas(self):
        self.check(FALLING, FALLING_AGES, True)
        self.check(FALLING, [[6, 4, 2, 0, None, -2, -4, None]], True)
        self.check(FALLING, [[6, 4, 2, 0, None, -2, 1, None]], False)

    def test_hours_alone_are_laid_just_where_they_are_ages(self):
        for chart in sample_charts():
            rows = [[None if one < 0 else one for one in row] for row in chart[1]]
            self.check(chart, rows, is_laid_by_definition(chart, rows))


class WhatIsHandedInAndTold(unittest.TestCase):
    def test_wrong_charts_go_first(self):
        for chart in WRONG_CHARTS:
            self.assertRaises(BadChart, even, chart)
            self.assertRaises(BadChart, ages, chart)
            for rows in ([], [[]], [[0]], [[None]], [[FAR], [None, 0]], copied(chart[1])):
                self.assertRaises(BadChart, is_laid, chart, rows)

    def test_wrong_chart_goes_ahead_of_knots(self):
        for chart in ((4, ((0, 1), (0, 2))), (3, ((0, 1), (0, 2), (0,))), (3, ((0, 1, 3), (0, 2, 3)))):
            self.assertRaises(BadChart, ages, chart)

    def test_changed_lists_do_not_change_what_is_told_again(self):
        for chart in (CALM, FALLING, BARE, MIXED):
            first = ages(chart)
            kept = copied(first)
            for row in first:
                row[0] = FAR
                row.append(1)
            self.assertEqual(len(first), len(kept))
            first.clear()
            self.assertEqual(ages(chart), kept)

    def test_rows_share_no_list(self):
        first = ages((3, blank(3, 3)))
        first[0][0] = 7
        self.assertEqual(first, [[7, 0, 0], [0, 0, 0], [0, 0, 0]])
        bare = ages(BARE)
        bare[0].append(1)
        self.assertEqual(bare[1], [None, None])

    def test_handed_rows_are_not_kept(self):
        rows = copied(CALM_AGES)
        self.assertIs(is_laid(CALM, rows), True)
        rows[0][0] += 1
        self.assertIs(is_laid(CALM, rows), False)
        rows[0][0] -= 1
        self.assertIs(is_laid(CALM, rows), True)

    def test_asked_again_is_told_alike(self):
        for chart in EVEN_CHARTS[::5]:
            self.assertEqual([even(chart), ages(chart)], [even(chart), ages(chart)])
        for _ in range(2):
            self.assertRaises(Knotted, ages, NESTED)
            self.assertIs(even(NESTED), False)


if __name__ == "__main__":
    unittest.main()
