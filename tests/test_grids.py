"""Charts, squares, sides and seas: [1], [4] and cotide.grids."""

import inspect
import unittest

from cotide import grids
from cotide.errors import BadChart, BadSquare
from cotide.grids import hour_at, is_chart, seas, sides, size, told
from samples import BARE, FAR, MIXED, ONE, WRONG_CHARTS, blank, seas_by_definition, sides_by_definition, some_charts
from samples import told_by_definition


class Interface(unittest.TestCase):
    def test_names_and_arguments(self):
        for name, written in (("is_chart", "(chart)"), ("size", "(chart)"), ("hour_at", "(chart, square)"),
                              ("told", "(chart)"), ("sides", "(chart)"), ("seas", "(chart)")):
            self.assertEqual(str(inspect.signature(getattr(grids, name))), written)
            self.assertEqual(getattr(grids, name).__module__, "cotide.grids")

    def test_by_names(self):
        self.assertIs(is_chart(chart=ONE), True)
        self.assertEqual(size(chart=ONE), (1, 1))
        self.assertEqual(hour_at(square=(0, 0), chart=ONE), 0)
        self.assertEqual(told(chart=ONE), [(0, 0)])
        self.assertEqual(sides(chart=ONE), [])
        self.assertEqual(seas(chart=ONE), [[(0, 0)]])


class IsChart(unittest.TestCase):
    def test_all_sizes(self):
        for high in range(0, 13):
            for wide in range(0, 13):
                for one in (-2, -1, 0, 12):
                    good = 1 <= high <= 9 and 1 <= wide <= 9
                    self.assertIs(is_chart((13, blank(high, wide, one))), good, (high, wide))

    def test_all_numbers_of_all_clocks(self):
        for clock in range(-3, 20):
            for one in range(-5, 20):
                good = clock in (3, 5, 7, 9, 11, 13, 15) and -2 <= one < clock
                self.assertIs(is_chart((clock, ((-1, -2), (0, one)))), good, (clock, one))

    def test_good_ones(self):
        for chart in some_charts():
            self.assertIs(is_chart(chart), True, chart)

    def test_wrong_ones(self):
        for chart in WRONG_CHARTS:
            self.assertIs(is_chart(chart), False, chart)


class WrongCharts(unittest.TestCase):
    def test_refused_by_all(self):
        for chart in WRONG_CHARTS:
            for function in (size, told, sides, seas):
                self.assertRaises(BadChart, function, chart)

    def test_refused_ahead_of_the_square(self):
        for chart in WRONG_CHARTS:
            for square in ((0, 0), (-1, 0), (0, 9), (FAR, -FAR)):
                self.assertRaises(BadChart, hour_at, chart, square)


class Squares(unittest.TestCase):
    def test_size(self):
        self.assertEqual(size(MIXED), (3, 4))
        for high in range(1, 10):
            for wide in range(1, 10):
                pair = size((3, blank(high, wide)))
                self.assertEqual(pair, (high, wide))
                self.assertIsInstance(pair, tuple)

    def test_hour_at_all_squares(self):
        for chart in some_charts():
            for at, row in enumerate(chart[1]):
                for column, one in enumerate(row):
                    self.assertEqual(hour_at(chart, (at, column)), one)

    def test_hour_at_beyond_the_rim(self):
        for chart in some_charts():
            high, wide = size(chart)
            for row in (-FAR, -high, -2, -1, high, high + 1, 9, FAR):
                for column in range(wide):
                    self.assertRaises(BadSquare, hour_at, chart, (row, column))
            for column in (-FAR, -wide, -2, -1, wide, wide + 1, 9, FAR):
                for row in range(high):
                    self.assertRaises(BadSquare, hour_at, chart, (row, column))
            self.assertRaises(BadSquare, hour_at, chart, (-1, -1))
            self.assertRaises(BadSquare, hour_at, chart, (high, wide))


class ToldSquaresSidesAndSeas(unittest.TestCase):
    def test_mixed_chart(self):
        self.assertEqual(told(MIXED), [(0, 0), (0, 1), (0, 3), (1, 1), (1, 3), (2, 0), (2, 2)])
        self.assertEqual(sides(MIXED), [((0, 0), (0, 1)), ((0, 1), (1, 1)), ((0, 3), (1, 3))])
        self.assertEqual(seas(MIXED), [[(0, 0), (0, 1), (1, 1)], [(0, 3), (1, 3)], [(2, 0)], [(2, 2)]])

    def test_chart_without_told_squares(self):
        for function in (told, sides, seas):
            self.assertEqual(function(BARE), [])

    def test_right_goes_ahead_of_below(self):
        self.assertEqual(sides((3, ((0, 1), (2, 0)))),
                         [((0, 0), (0, 1)), ((0, 0), (1, 0)), ((0, 1), (1, 1)), ((1, 0), (1, 1))])

    def test_rows_do_not_run_on_into_the_next(self):
        self.assertEqual(sides((3, ((-1, 0), (0, -1)))), [])

    def test_sea_that_winds_is_one_and_rising(self):
        winding = (7, ((0, -1, 6), (1, -1, 5), (2, 3, 4)))
        self.assertEqual(seas(winding), [[(0, 0), (0, 2), (1, 0), (1, 2), (2, 0), (2, 1), (2, 2)]])

    def test_untold_squares_part_seas(self):
        self.assertEqual(seas((3, ((0, -2, 0),))), [[(0, 0)], [(0, 2)]])

    def test_largest_chart(self):
        chart = (15, blank(9, 9, 14))
        self.assertEqual(len(told(chart)), 81)
        self.assertEqual(len(sides(chart)), 144)
        self.assertEqual(seas(chart), [told(chart)])

    def test_against_the_definitions(self):
        for chart in some_charts():
            self.assertEqual(told(chart), told_by_definition(chart))
            self.assertEqual(sides(chart), sides_by_definition(chart))
            self.assertEqual(seas(chart), seas_by_definition(chart))

    def test_kinds(self):
        for chart in some_charts():
            self.assertTrue(all(type(square) is tuple for square in told(chart)))
            for side in sides(chart):
                self.assertEqual([type(side), type(side[0]), type(side[1])], [tuple] * 3)
            for sea in seas(chart):
                self.assertIs(type(sea), list)
                self.assertTrue(all(type(square) is tuple for square in sea))
            self.assertEqual([type(function(chart)) for function in (told, sides, seas)], [list] * 3)


class NewLists(unittest.TestCase):
    def test_changed_lists_do_not_change_what_is_told_again(self):
        for function in (told, sides, seas):
            first = function(MIXED)
            kept = list(first)
            first.clear()
            self.assertEqual(function(MIXED), kept)
            self.assertIsNot(function(MIXED), function(MIXED))

    def test_lists_within_are_new_too(self):
        first = seas(MIXED)
        kept = [list(sea) for sea in first]
        for sea in first:
            sea.append((9, 9))
        self.assertEqual(seas(MIXED), kept)

    def test_seas_share_no_list(self):
        found = seas((3, ((0, -1, 0),)))
        found[0].append((9, 9))
        self.assertEqual(found[1], [(0, 2)])


if __name__ == "__main__":
    unittest.main()
