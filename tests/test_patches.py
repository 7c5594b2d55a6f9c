"""Patches: [1], [14] and cotide.patches."""

import inspect
import random
import unittest

from cotide import patches as module
from cotide.errors import BadChart, BadSquare, Unlike
from cotide.eyes import eyes, whole_count
from cotide.grids import is_chart
from cotide.patches import cut, laid_in, later, mirrored, turned
from samples import CALM, DOUBLE, FAR, MIXED, NESTED, ONE, WHIRL, WRONG_CHARTS, blank, corners_by_definition
from samples import eyes_by_definition, large_charts, sample_charts

CHARTS = sample_charts() + large_charts()
WIDE = (13, ((0, 1, 2), (-1, -2, 12)))


def height(chart):
    return len(chart[1])


def width(chart):
    return len(chart[1][0])


def squares(chart):
    return [(row, column) for row in range(height(chart)) for column in range(width(chart))]


def is_tuples(chart):
    return [type(chart), type(chart[1]), {type(row) for row in chart[1]}] == [tuple, tuple, {tuple}]


def counts_by_corner(chart):
    """The count of its eye for each corner, None where it is open to the outside."""
    counts = {corner: count for corners, count in eyes_by_definition(chart) for corner in corners}
    return {corner: counts.get(corner) for corner in corners_by_definition(chart)}


class Interface(unittest.TestCase):
    def test_names_and_arguments(self):
        for name, written in (("cut", "(chart, top, left, rows, columns)"), ("turned", "(chart)"),
                              ("mirrored", "(chart)"), ("later", "(chart, by=1)"),
                              ("laid_in", "(chart, patch, top=0, left=0)")):
            self.assertEqual(str(inspect.signature(getattr(module, name))), written)
            self.assertEqual(getattr(module, name).__module__, "cotide.patches")

    def test_by_names_and_with_things_left_out(self):
        self.assertEqual(cut(columns=2, rows=1, left=1, top=0, chart=WIDE), (13, ((1, 2),)))
        self.assertEqual(turned(chart=WIDE), (13, ((-1, 0), (-2, 1), (12, 2))))
        self.assertEqual(mirrored(chart=WIDE), (13, ((2, 1, 0), (12, -2, -1))))
        self.assertEqual(later(chart=WIDE), (13, ((1, 2, 3), (-1, -2, 0))))
        self.assertEqual(later(by=-1, chart=WIDE), (13, ((12, 0, 1), (-1, -2, 11))))
        patch = (13, ((7,),))
        self.assertEqual(laid_in(patch=patch, chart=WIDE), (13, ((7, 1, 2), (-1, -2, 12))))
        self.assertEqual(laid_in(WIDE, patch, 1), (13, ((0, 1, 2), (7, -2, 12))))
        self.assertEqual(laid_in(WIDE, patch, left=1), (13, ((0, 7, 2), (-1, -2, 12))))
        self.assertEqual(laid_in(left=2, top=1, patch=patch, chart=WIDE), (13, ((0, 1, 2), (-1, -2, 7))))


class Cut(unittest.TestCase):
    def test_square_by_square(self):
        chance = random.Random(51)
        for chart in CHARTS:
            for _ in range(6):
                top, left = chance.randrange(height(chart)), chance.randrange(width(chart))
                rows, columns = chance.randint(1, height(chart) - top), chance.randint(1, width(chart) - left)
                patch = cut(chart, top, left, rows, columns)
                self.assertTrue(is_chart(patch) and is_tuples(patch))
                self.assertEqual((patch[0], height(patch), width(patch)), (chart[0], rows, columns))
                for row, column in squares(patch):
                    self.assertEqual(patch[1][row][column], chart[1][top + row][left + column])

    def test_all_of_it(self):
        for chart in CHARTS:
            self.assertEqual(cut(chart, 0, 0, height(chart), width(chart)), chart)

    def test_just_where_it_lies_within(self):
        chart = (5, blank(3, 4, 2))
        for top in range(-2, 6):
            for left in range(-2, 6):
                for rows in range(-2, 6):
                    for columns in range(-2, 6):
                        if (rows > 0 and columns > 0 and top >= 0 and left >= 0 and top + rows <= 3
                                and left + columns <= 4):
                            self.assertEqual(cut(chart, top, left, rows, columns), (5, blank(rows, columns, 2)))
                        else:
                            self.assertRaises(BadSquare, cut, chart, top, left, rows, columns)

    def test_far_off(self):
        for far in (FAR, -FAR):
            for arguments in ((far, 0, 1, 1), (0, far, 1, 1), (0, 0, far, 1), (0, 0, 1, far), (far, 0, -far, 1),
                              (far, 0, 1 - far, 1), (0, far, 1, 1 - far)):
                self.assertRaises(BadSquare, cut, MIXED, *arguments)


class TurnedAndMirrored(unittest.TestCase):
    def test_turned_square_by_square(self):
        for chart in CHARTS:
            found = turned(chart)
            self.assertTrue(is_chart(found) and is_tuples(found))
            self.assertEqual((found[0], height(found), width(found)), (chart[0], width(chart), height(chart)))
            for row, column in squares(chart):
                self.assertEqual(found[1][column][height(chart) - 1 - row], chart[1][row][column])

    def test_first_row_is_last_column(self):
        for chart in CHARTS:
            self.assertEqual(tuple(row[-1] for row in turned(chart)[1]), chart[1][0])

    def test_four_quarters(self):
        for chart in CHARTS:
            self.assertEqual(turned(turned(turned(turned(chart)))), chart)

    def test_mirrored_square_by_square(self):
        for chart in CHARTS:
            found = mirrored(chart)
            self.assertTrue(is_chart(found) and is_tuples(found))
            self.assertEqual((found[0], height(found), width(found)), (chart[0], height(chart), width(chart)))
            for row, column in squares(chart):
                self.assertEqual(found[1][row][width(chart) - 1 - column], chart[1][row][column])
            self.assertEqual(mirrored(found), chart)

    def test_turning_keeps_all_counts(self):
        for chart in CHARTS:
            last = height(chart) - 2
            wanted = {(column, last - row): count for (row, column), count in counts_by_corner(chart).items()}
            self.assertEqual(counts_by_corner(turned(chart)), wanted)
            self.assertEqual(sorted(count for _, count in eyes(turned(chart))),
                             sorted(count for _, count in eyes(chart)))

    def test_mirroring_gives_each_count_the_other_sign(self):
        for chart in CHARTS:
            last = width(chart) - 2
            wanted = {(row, last - column): None if count is None else -count
                      for (row, column), count in counts_by_corner(chart).items()}
            self.assertEqual(counts_by_corner(mirrored(chart)), wanted)
            self.assertEqual(whole_count(mirrored(chart)), -whole_count(chart))
        self.assertEqual(eyes(mirrored(DOUBLE))[0][1], -2)


class Later(unittest.TestCase):
    def test_square_by_square(self):
        for chart in CHARTS:
            for by in (-FAR, -chart[0], -2, -1, 0, 1, 2, chart[0] - 1, chart[0], chart[0] + 1, 100, FAR):
                found = later(chart, by)
                self.assertTrue(is_chart(found) and is_tuples(found))
                for row, column in squares(chart):
                    one = chart[1][row][column]
                    self.assertEqual(found[1][row][column], one if one < 0 else (one + by) % chart[0])

    def test_one_hour_where_it_is_left_out(self):
        for chart in CHARTS[::7]:
            self.assertEqual(later(chart), later(chart, 1))
            self.assertEqual(later(later(chart, 5), -5), chart)

    def test_keeps_all_eyes(self):
        for chart in CHARTS:
            self.assertEqual(eyes(later(chart, 2)), eyes(chart))
            self.assertEqual(eyes(later(chart, -3)), eyes(chart))


class LaidIn(unittest.TestCase):
    def test_square_by_square(self):
        chance = random.Random(52)
        for chart in CHARTS:
            for _ in range(6):
                rows, columns = chance.randint(1, height(chart)), chance.randint(1, width(chart))
                top, left = chance.randint(0, height(chart) - rows), chance.randint(0, width(chart) - columns)
                patch = (chart[0], tuple(tuple(chance.randint(-2, chart[0] - 1) for _ in range(columns))
                                         for _ in range(rows)))
                found = laid_in(chart, patch, top, left)
                self.assertTrue(is_chart(found) and is_tuples(found))
                for row, column in squares(chart):
                    within = top <= row < top + rows and left <= column < left + columns
                    self.assertEqual(found[1][row][column],
                                     patch[1][row - top][column - left] if within else chart[1][row][column])
                self.assertEqual(cut(found, top, left, rows, columns), patch)
                self.assertEqual((height(found), width(found)), (height(chart), width(chart)))

    def test_what_was_cut_out(self):
        for chart in CHARTS[::5]:
            patch = cut(chart, height(chart) - 1, width(chart) - 1, 1, 1)
            self.assertEqual(laid_in(chart, patch, height(chart) - 1, width(chart) - 1), chart)
            self.assertEqual(laid_in(chart, chart), chart)

    def test_land_and_untold_squares_are_laid_too(self):
        self.assertEqual(laid_in((3, blank(2, 2, 1)), (3, ((-1, -2),)), 1, 0), (3, ((1, 1), (-1, -2))))

    def test_just_where_it_lies_within(self):
        chart, patch = (5, blank(3, 4, 2)), (5, blank(2, 3, 1))
        for top in range(-3, 6):
            for left in range(-3, 6):
                if 0 <= top <= 1 and 0 <= left <= 1:
                    self.assertEqual(cut(laid_in(chart, patch, top, left), top, left, 2, 3), patch)
                else:
                    self.assertRaises(BadSquare, laid_in, chart, patch, top, left)
        for far in (FAR, -FAR):
            self.assertRaises(BadSquare, laid_in, chart, patch, far, 0)
            self.assertRaises(BadSquare, laid_in, chart, patch, 0, far)

    def test_patch_greater_than_the_chart(self):
        for patch in ((3, blank(2, 1)), (3, blank(1, 2)), (3, blank(9, 9))):
            self.assertRaises(BadSquare, laid_in, ONE, patch)

    def test_unlike_goes_ahead_of_the_square(self):
        for top, left in ((0, 0), (-1, 0), (0, 9), (FAR, -FAR)):
            self.assertRaises(Unlike, laid_in, CALM, WHIRL, top, left)
            self.assertRaises(Unlike, laid_in, WHIRL, CALM, top, left)
            self.assertRaises(Unlike, laid_in, ONE, MIXED, top, left)

    def test_wrong_chart_of_either_goes_first(self):
        for wrong in WRONG_CHARTS:
            for top, left in ((0, 0), (-1, 0), (FAR, -FAR)):
                for good in (ONE, CALM, NESTED):
                    self.assertRaises(BadChart, laid_in, wrong, good, top, left)
                    self.assertRaises(BadChart, laid_in, good, wrong, top, left)
                self.assertRaises(BadChart, laid_in, wrong, wrong, top, left)


class WhatIsHandedInAndTold(unittest.TestCase):
    def test_wrong_charts_go_first(self):
        for chart in WRONG_CHARTS:
            for function in (turned, mirrored, later):
                self.assertRaises(BadChart, function, chart)
            self.assertRaises(BadChart, later, chart, FAR)
            for arguments in ((0, 0, 1, 1), (0, 0, 0, 0), (-1, 9, FAR, -FAR)):
                self.assertRaises(BadChart, cut, chart, *arguments)

    def test_asked_again_is_told_alike(self):
        for chart in CHARTS[::9]:
            for function in (turned, mirrored, later):
                self.assertEqual(function(chart), function(chart))


if __name__ == "__main__":
    unittest.main()
