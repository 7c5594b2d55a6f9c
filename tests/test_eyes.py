"""Eyes: [1], [6], [7], [8] and cotide.eyes."""

import inspect
import itertools
import random
import unittest

from cotide import eyes as module
from cotide.errors import BadChart, BadSquare
from cotide.eyes import eye_at, eyes, knots, whole_count
from cotide.rings import ring_count
from samples import BACK_WHIRL, BARE, CALM, CLOCKS, DOUBLE, FAR, MIXED, NESTED, ONE, WHIRL, WRONG_CHARTS, blank
from samples import calm_charts, corners_by_definition, eyes_by_definition, ring_about, sample_charts

FOUR = [(0, 0), (0, 1), (1, 0), (1, 1)]


def patterned(chance, clock, high, wide, pattern):
    """A chart with any hours where the pattern is true, land or untold sea elsewhere."""
    some = [chance.randrange(clock) if one else chance.choice((-1, -2)) for one in pattern]
    return (clock, tuple(tuple(some[row * wide:(row + 1) * wide]) for row in range(high)))


def with_one(chart, square, one):
    rows = [list(row) for row in chart[1]]
    rows[square[0]][square[1]] = one
    return (chart[0], tuple(tuple(row) for row in rows))


class Interface(unittest.TestCase):
    def test_names_and_arguments(self):
        for name, written in (("eyes", "(chart)"), ("knots", "(chart)"), ("eye_at", "(chart, corner)"),
                              ("whole_count", "(chart)")):
            self.assertEqual(str(inspect.signature(getattr(module, name))), written)
            self.assertEqual(getattr(module, name).__module__, "cotide.eyes")

    def test_by_names(self):
        self.assertEqual(eyes(chart=WHIRL), [([(0, 0)], 1)])
        self.assertEqual(knots(chart=WHIRL), [((0, 0), 1)])
        self.assertEqual(eye_at(corner=(0, 0), chart=WHIRL), 0)
        self.assertEqual(whole_count(chart=WHIRL), 1)


class Eyes(unittest.TestCase):
    def test_one_corner(self):
        self.assertEqual(eyes(WHIRL), [([(0, 0)], 1)])
        self.assertEqual(eyes(BACK_WHIRL), [([(0, 0)], -1)])
        self.assertEqual(eyes((3, blank(2, 2))), [([(0, 0)], 0)])
        self.assertEqual(eyes((15, ((0, 4), (11, 7)))), [([(0, 0)], 1)])

    def test_land_or_untold_square_in_the_middle(self):
        for one in (-1, -2):
            self.assertEqual(eyes(with_one(DOUBLE, (1, 1), one)), [(FOUR, 2)])
            self.assertEqual(eyes(with_one((5, blank(3, 3)), (1, 1), one)), [(FOUR, 0)])

    def test_sea_of_its_own_within_an_eye(self):
        outer = [corner for corner in corners_by_definition(NESTED) if corner != (2, 2)]
        self.assertEqual(eyes(NESTED), [(outer, 4), ([(2, 2)], 1)])
        self.assertEqual(knots(NESTED), [((0, 0), 4), ((2, 2), 1)])
        self.assertEqual(whole_count(NESTED), 5)

    def test_told_square_alone_within_an_eye(self):
        rows = [list(row) for row in blank(5, 5)]
        for row, column in ring_about(1, 1, 3, 3):
            rows[row][column] = -2
        chart = (3, tuple(tuple(row) for row in rows))
        self.assertEqual(eyes(chart), [(corners_by_definition(chart), 0)])

    def test_squares_that_reach_into_an_eye_cancel_out(self):
        chart = (3, ((0, 1, 2, 0), (2, 0, -1, 0), (2, -1, -1, 1), (1, 0, 0, 2)))
        self.assertEqual(eyes(chart), eyes_by_definition(chart))
        self.assertEqual([len(corners) for corners, _ in eyes(chart)], [1, 8])

    def test_side_does_not_part_where_the_way_leads_round_it(self):
        rows = [list(row) for row in blank(6, 5, 1)]
        for row, column in ring_about(1, 1, 4, 3) + [(2, 2), (3, 2)]:
            rows[row][column] = -1
        rows[2][2] = rows[3][2] = 2
        chart = (3, tuple(tuple(row) for row in rows))
        self.assertEqual(eyes(chart), [(corners_by_definition(chart), 0)])

    def test_open_at_each_rim(self):
        flat = (3, blank(3, 3))
        for square, left in (((0, 1), [(1, 0), (1, 1)]), ((1, 0), [(0, 1), (1, 1)]), ((2, 1), [(0, 0), (0, 1)]),
                             ((1, 2), [(0, 0), (1, 0)]), ((0, 0), FOUR[1:]), ((0, 2), [FOUR[0]] + FOUR[2:]),
                             ((2, 0), FOUR[:2] + FOUR[3:]), ((2, 2), FOUR[:3])):
            for one in (-1, -2):
                self.assertEqual(eyes(with_one(flat, square, one)), [([corner], 0) for corner in left], square)

    def test_open_through_another_corner(self):
        flat = (3, blank(5, 5))
        inlet = with_one(with_one(with_one(flat, (2, 2), -1), (1, 2), -2), (0, 2), -1)
        opened = [(0, 1), (0, 2), (1, 1), (1, 2), (2, 1), (2, 2)]
        for corner in opened:
            self.assertIsNone(eye_at(inlet, corner))
        self.assertEqual([corners for corners, _ in eyes(inlet)],
                         [[corner] for corner in corners_by_definition(flat) if corner not in opened])

    def test_land_that_meets_at_a_corner_only_makes_one_eye(self):
        chart = with_one(with_one((3, blank(4, 4)), (1, 1), -1), (2, 2), -2)
        self.assertEqual(eyes(chart)[0], ([(0, 0), (0, 1), (1, 0), (1, 1), (1, 2), (2, 1), (2, 2)], 0))
        self.assertEqual(len(eyes(chart)), 3)

    def test_charts_without_eyes(self):
        for chart in (ONE, BARE, MIXED, (3, blank(9, 9, -1)), (3, blank(9, 9, -2)), (5, ((0, -1), (2, 3))),
                      (5, ((0, -1), (-2, 3))), (5, ((-1, 0), (1, -2)))):
            self.assertEqual([eyes(chart), knots(chart), whole_count(chart)], [[], [], 0])

    def test_one_row_and_one_column(self):
        for many in range(1, 10):
            for one in (-2, -1, 0, 2):
                for chart in ((3, blank(1, many, one)), (3, blank(many, 1, one))):
                    self.assertEqual([eyes(chart), knots(chart), whole_count(chart)], [[], [], 0])
                    for corner in ((0, 0), (many - 2, 0), (0, many - 2), (-1, 0), (0, -1)):
                        self.assertRaises(BadSquare, eye_at, chart, corner)

    def test_largest_chart(self):
        chart = (15, blank(9, 9, 14))
        self.assertEqual(eyes(chart), [([corner], 0) for corner in corners_by_definition(chart)])
        self.assertEqual(len(eyes(chart)), 64)

    def test_all_charts_of_two_by_two(self):
        for a, b, c, d in itertools.product(range(-2, 3), repeat=4):
            chart = (3, ((a, b), (c, d)))
            self.assertEqual(eyes(chart), eyes_by_definition(chart), chart)
            self.assertEqual(len(eyes(chart)), int(min(a, b, c, d) >= 0))

    def test_all_patterns_of_three_by_three(self):
        chance = random.Random(12)
        for pattern in itertools.product((True, False), repeat=9):
            chart = patterned(chance, chance.choice(CLOCKS), 3, 3, pattern)
            self.assertEqual(eyes(chart), eyes_by_definition(chart), chart)

    def test_told_rim_and_any_squares_within(self):
        chance = random.Random(13)
        for _ in range(200):
            high, wide = chance.randint(3, 9), chance.randint(3, 9)
            rim = ring_about(0, 0, high - 1, wide - 1)
            pattern = [(row, column) in rim or chance.random() < 0.5 for row in range(high) for column in range(wide)]
            chart = patterned(chance, chance.choice(CLOCKS), high, wide, pattern)
            self.assertEqual(eyes(chart), eyes_by_definition(chart), chart)
            self.assertEqual(sum(len(corners) for corners, _ in eyes(chart)), (high - 1) * (wide - 1))
            self.assertEqual(whole_count(chart), ring_count(chart, rim))

    def test_against_the_definition(self):
        for chart in sample_charts():
            self.assertEqual(eyes(chart), eyes_by_definition(chart), chart)

    def test_counts_of_small_and_greater_eyes(self):
        small, greater = set(), set()
        for chart in sample_charts():
            for corners, count in eyes(chart):
                (small if len(corners) == 1 else greater).add(count)
        self.assertEqual(small, {-1, 0, 1})
        self.assertGreater(max(greater), 1)

    def test_order(self):
        for chart in sample_charts():
            found = eyes(chart)
            for corners, _ in found:
                self.assertEqual(corners, sorted(set(corners)))
            firsts = [corners[0] for corners, _ in found]
            self.assertEqual(firsts, sorted(firsts))

    def test_kinds(self):
        for chart in sample_charts():
            self.assertIs(type(eyes(chart)), list)
            self.assertIs(type(knots(chart)), list)
            self.assertIs(type(whole_count(chart)), int)
            for pair in eyes(chart):
                self.assertEqual([type(pair), len(pair), type(pair[0]), type(pair[1])], [tuple, 2, list, int])
                self.assertTrue(all(type(corner) is tuple for corner in pair[0]))
            for pair in knots(chart):
                self.assertEqual([type(pair), len(pair), type(pair[0]), type(pair[1])], [tuple, 2, tuple, int])


class KnotsAndWholeCount(unittest.TestCase):
    def test_knots_are_the_eyes_that_are_not_nought(self):
        for chart in sample_charts():
            self.assertEqual(knots(chart), [(corners[0], count) for corners, count in eyes_by_definition(chart) if count])

    def test_signs(self):
        self.assertEqual(knots(BACK_WHIRL), [((0, 0), -1)])
        self.assertEqual(knots(DOUBLE), [((0, 0), 2)])
        pair = (3, ((0, 1, 0), (0, 2, 0)))
        self.assertEqual(knots(pair), [((0, 0), 1), ((0, 1), -1)])
        self.assertEqual(whole_count(pair), 0)

    def test_calm_charts_have_no_knot(self):
        self.assertEqual(knots(CALM), [])
        for chart, _ in calm_charts():
            self.assertEqual([knots(chart), whole_count(chart)], [[], 0])

    def test_whole_count(self):
        for chart in sample_charts():
            self.assertEqual(whole_count(chart), sum(count for _, count in eyes_by_definition(chart)))


class EyeAt(unittest.TestCase):
    def test_all_corners(self):
        for chart in sample_charts():
            place = {corner: at for at, (corners, _) in enumerate(eyes_by_definition(chart)) for corner in corners}
            for corner in corners_by_definition(chart):
                self.assertEqual(eye_at(chart, corner), place.get(corner))

    def test_first_eye_is_nought_and_not_none(self):
        self.assertEqual(eye_at(NESTED, (0, 0)), 0)
        self.assertEqual(eye_at(NESTED, (4, 4)), 0)
        self.assertEqual(eye_at(NESTED, (2, 2)), 1)
        self.assertIsNone(eye_at(BARE, (0, 0)))

    def test_corners_that_the_chart_has_not(self):
        for chart in sample_charts():
            high, wide = len(chart[1]), len(chart[1][0])
            for row in (-FAR, -high, -2, -1, high - 1, high, 9, FAR):
                for column in range(-1, wide + 1):
                    self.assertRaises(BadSquare, eye_at, chart, (row, column))
            for column in (-FAR, -wide, -2, -1, wide - 1, wide, 9, FAR):
                for row in range(-1, high + 1):
                    self.assertRaises(BadSquare, eye_at, chart, (row, column))


class WhatIsHandedInAndTold(unittest.TestCase):
    def test_wrong_charts_go_first(self):
        for chart in WRONG_CHARTS:
            for function in (eyes, knots, whole_count):
                self.assertRaises(BadChart, function, chart)
            for corner in ((0, 0), (-1, 0), (0, 9), (FAR, -FAR)):
                self.assertRaises(BadChart, eye_at, chart, corner)

    def test_changed_lists_do_not_change_what_is_told_again(self):
        for chart in (NESTED, DOUBLE, WHIRL):
            for function in (eyes, knots):
                first = function(chart)
                kept = list(first)
                first.clear()
                self.assertEqual(function(chart), kept)

    def test_lists_within_are_new_too(self):
        for chart in (NESTED, DOUBLE, WHIRL):
            first = eyes(chart)
            kept = [(list(corners), count) for corners, count in first]
            for corners, _ in first:
                corners.append((9, 9))
                self.assertEqual(corners.count((9, 9)), 1)
            self.assertEqual(eyes(chart), kept)
            self.assertEqual(eye_at(chart, (0, 0)), 0)

    def test_asked_again_is_told_alike(self):
        for chart in sample_charts()[::5]:
            self.assertEqual([eyes(chart), knots(chart), whole_count(chart)],
                             [eyes(chart), knots(chart), whole_count(chart)])


if __name__ == "__main__":
    unittest.main()
