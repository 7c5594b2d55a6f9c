"""Rings: [1], [5], [8] and cotide.rings."""

import inspect
import random
import unittest

from cotide import rings
from cotide.errors import BadChart, BadRing
from cotide.eyes import eyes
from cotide.rings import goes_round, is_ring, joined, ring_count
from samples import CALM, DOUBLE, FAR, MIXED, NESTED, ONE, WHIRL, WRONG_CHARTS, blank, calm_charts
from samples import corners_by_definition, count_by_steps, goes_round_by_another_ray, is_ring_by_definition
from samples import ring_about, rings_about, sample_charts, sample_rings

FLAT = (3, blank(9, 9))
AROUND = ring_about(0, 0, 2, 2)
# From the middle row on: once round the left part of three by five squares, once round the right part.
EIGHT = [(1, 2), (1, 1), (1, 0), (0, 0), (0, 1), (0, 2), (1, 2), (1, 3), (1, 4), (2, 4), (2, 3), (2, 2)]


def charts_with_rings():
    chance = random.Random(5)
    return [(chart, sample_rings(chart, chance)) for chart in sample_charts()]


CHARTS_WITH_RINGS = charts_with_rings()


def spoiled(ring, chance):
    """Lists that differ from the ring in one thing; most of them are no rings."""
    at = chance.randrange(len(ring))
    to = chance.randrange(len(ring))
    exchanged = list(ring)
    exchanged[at], exchanged[to] = ring[to], ring[at]
    found = [ring[:at] + ring[at + 1:], ring[:at] + [ring[at]] + ring[at:], exchanged, ring[:1], []]
    for off in ((-1, 0), (0, 1), (9, 0), (0, -9), (FAR, 0), (0, -FAR)):
        found.append(ring[:at] + [(ring[at][0] + off[0], ring[at][1] + off[1])] + ring[at + 1:])
    return found


class Interface(unittest.TestCase):
    def test_names_and_arguments(self):
        for name, written in (("is_ring", "(chart, ring)"), ("ring_count", "(chart, ring)"),
                              ("goes_round", "(ring, corner)"), ("joined", "(chart, ring, other)")):
            self.assertEqual(str(inspect.signature(getattr(rings, name))), written)
            self.assertEqual(getattr(rings, name).__module__, "cotide.rings")

    def test_by_names(self):
        ring = ring_about(0, 0, 1, 1)
        self.assertIs(is_ring(ring=ring, chart=WHIRL), True)
        self.assertEqual(ring_count(ring=ring, chart=WHIRL), 1)
        self.assertEqual(goes_round(corner=(0, 0), ring=ring), 1)
        self.assertEqual(joined(other=ring[::-1], ring=ring, chart=WHIRL), ring + [(0, 0), (1, 0), (1, 1), (0, 1)])


class IsRing(unittest.TestCase):
    def test_round_rectangles_of_charts_up_to_nine_by_nine(self):
        for high in range(1, 10):
            for wide in range(1, 10):
                chart = (7, blank(high, wide, 6))
                for ring in rings_about(chart):
                    self.assertIs(is_ring(chart, ring), True)
                    self.assertIs(is_ring(chart, ring[::-1]), True)
                    self.assertIs(is_ring(chart, ring[:-1]), False)

    def test_rings_of_all_kinds(self):
        for chart, some in CHARTS_WITH_RINGS:
            for ring in some:
                self.assertIs(is_ring(chart, ring), True, (chart, ring))

    def test_two_squares_there_and_back(self):
        self.assertIs(is_ring(FLAT, [(0, 0), (0, 1)]), True)
        self.assertIs(is_ring(FLAT, [(8, 8), (7, 8)]), True)
        self.assertIs(is_ring(FLAT, [(0, 0), (0, 1)] * 5), True)
        self.assertIs(is_ring((3, ((0, 1),)), [(0, 1), (0, 0)]), True)
        self.assertIs(is_ring((3, ((0,), (1,))), [(0, 0), (1, 0)]), True)

    def test_too_few(self):
        for chart in (FLAT, ONE, MIXED):
            self.assertIs(is_ring(chart, []), False)
            self.assertIs(is_ring(chart, [(0, 0)]), False)
            self.assertIs(is_ring(chart, [(0, 0), (0, 0)]), False)

    def test_one_left_out(self):
        for at in range(len(AROUND)):
            self.assertIs(is_ring(FLAT, AROUND[:at] + AROUND[at + 1:]), False, at)

    def test_one_twice(self):
        for at in range(len(AROUND)):
            self.assertIs(is_ring(FLAT, AROUND[:at] + AROUND[at:at + 1] + AROUND[at:]), False, at)

    def test_the_same_square_again_later(self):
        self.assertIs(is_ring(FLAT, EIGHT), True)
        self.assertIs(is_ring(FLAT, [(0, 0), (0, 1), (0, 2), (0, 1)]), True)

    def test_two_exchanged(self):
        for at in range(len(AROUND)):
            for to in range(at):
                ring = list(AROUND)
                ring[at], ring[to] = ring[to], ring[at]
                self.assertIs(is_ring(FLAT, ring), False, (at, to))

    def test_open_at_the_end_alone(self):
        self.assertIs(is_ring(FLAT, [(0, 0), (0, 1), (0, 2)]), False)
        self.assertIs(is_ring(FLAT, [(0, 0), (0, 1), (1, 1)]), False)
        self.assertIs(is_ring(FLAT, AROUND + [(0, 0)]), False)

    def test_over_the_corner_or_two_squares_on(self):
        self.assertIs(is_ring(FLAT, [(0, 0), (1, 1)]), False)
        self.assertIs(is_ring(FLAT, [(0, 1), (1, 0)]), False)
        self.assertIs(is_ring(FLAT, [(0, 0), (0, 2)]), False)
        self.assertIs(is_ring(FLAT, [(0, 0), (2, 0)]), False)

    def test_rim_to_rim_is_no_step(self):
        self.assertIs(is_ring(FLAT, [(0, 0), (0, 8)]), False)
        self.assertIs(is_ring(FLAT, [(0, column) for column in range(9)]), False)
        self.assertIs(is_ring(FLAT, [(0, 8), (1, 0)]), False)

    def test_land_and_untold_squares(self):
        for one in (-1, -2):
            for at in range(len(AROUND)):
                rows = [[0] * 3 for _ in range(3)]
                rows[AROUND[at][0]][AROUND[at][1]] = one
                chart = (3, tuple(tuple(row) for row in rows))
                self.assertIs(is_ring(chart, AROUND), False, (one, at))
        self.assertIs(is_ring(DOUBLE, AROUND), True)
        self.assertIs(is_ring((3, blank(3, 3, -1)), AROUND), False)
        self.assertIs(is_ring((3, blank(3, 3, -2)), [(0, 0), (0, 1)]), False)
        self.assertIs(is_ring((3, ((0, -2),)), [(0, 0), (0, 1)]), False)

    def test_beyond_the_rim(self):
        chart = (3, blank(3, 3))
        for ring in ([(-1, 0), (0, 0)], [(0, 0), (-1, 0)], [(0, -1), (0, 0)], [(2, 2), (3, 2)], [(2, 2), (2, 3)],
                     [(-1, -1), (-1, -2)], [(2, -1), (2, -2)], [(-1, 2), (-2, 2)], ring_about(0, 0, 3, 2),
                     ring_about(-1, 0, 2, 2), ring_about(-3, -3, -1, -1), ring_about(8, 8, 9, 9)):
            self.assertIs(is_ring(chart, ring), False, ring)

    def test_far_off(self):
        for far in (FAR, -FAR, 10 ** 39):
            self.assertIs(is_ring(FLAT, [(far, far)]), False)
            self.assertIs(is_ring(FLAT, [(far, 0), (far, 1)]), False)
            self.assertIs(is_ring(FLAT, [(0, 0), (0, far)]), False)
            self.assertIs(is_ring(FLAT, [(0, 0), (0, 1), (far, 1), (far, 0)]), False)

    def test_against_the_definition(self):
        chance = random.Random(6)
        for chart, some in CHARTS_WITH_RINGS:
            for ring in some:
                for other in spoiled(ring, chance):
                    self.assertIs(is_ring(chart, other), is_ring_by_definition(chart, other), (chart, other))


class RingCount(unittest.TestCase):
    def test_whirls(self):
        ring = ring_about(0, 0, 1, 1)
        self.assertEqual(ring_count(WHIRL, ring), 1)
        self.assertEqual(ring_count(WHIRL, ring[::-1]), -1)
        self.assertEqual(ring_count(WHIRL, ring * 3), 3)
        self.assertEqual(ring_count(DOUBLE, AROUND), 2)
        self.assertEqual(ring_count(NESTED, ring_about(0, 0, 5, 5)), 5)
        self.assertEqual(ring_count(NESTED, ring_about(2, 2, 3, 3)), 1)

    def test_there_and_back_is_nought(self):
        self.assertEqual(ring_count(WHIRL, [(0, 0), (0, 1)]), 0)
        self.assertEqual(ring_count(WHIRL, [(0, 0), (0, 1), (1, 1), (0, 1)]), 0)

    def test_calm_charts_have_none(self):
        chance = random.Random(7)
        self.assertEqual(ring_count(CALM, AROUND), 0)
        for chart, _ in calm_charts():
            for ring in sample_rings(chart, chance):
                self.assertEqual(ring_count(chart, ring), 0)

    def test_against_the_steps(self):
        counts = []
        for chart, some in CHARTS_WITH_RINGS:
            for ring in some:
                count = ring_count(chart, ring)
                self.assertEqual(count, count_by_steps(chart, ring))
                self.assertEqual(ring_count(chart, ring[::-1]), -count)
                self.assertEqual(ring_count(chart, ring[1:] + ring[:1]), count)
                counts.append(count)
        self.assertGreater(max(counts), 2)
        self.assertLess(min(counts), -2)

    def test_what_is_no_ring_is_refused(self):
        chance = random.Random(8)
        for chart, some in CHARTS_WITH_RINGS:
            for ring in some:
                for other in spoiled(ring, chance):
                    if not is_ring_by_definition(chart, other):
                        self.assertRaises(BadRing, ring_count, chart, other)
        for ring in ([], [(0, 0)], [(FAR, FAR)], [(0, 0), (0, FAR)], [(-1, 0), (0, 0)], AROUND[:-1]):
            self.assertRaises(BadRing, ring_count, FLAT, ring)


class GoesRound(unittest.TestCase):
    def test_rectangles(self):
        ring = ring_about(1, 2, 3, 5)
        for row in range(-2, 11):
            for column in range(-2, 11):
                within = 1 <= row < 3 and 2 <= column < 5
                self.assertEqual(goes_round(ring, (row, column)), 1 if within else 0)
                self.assertEqual(goes_round(ring[::-1], (row, column)), -1 if within else 0)
                self.assertEqual(goes_round(ring * 2, (row, column)), 2 if within else 0)

    def test_eight_goes_round_both_parts_alike(self):
        around = {corner: goes_round(EIGHT, corner) for corner in corners_by_definition(FLAT)}
        self.assertEqual({corner: many for corner, many in around.items() if many},
                         {(0, 0): 1, (0, 1): 1, (1, 2): 1, (1, 3): 1})

    def test_twice_round_on_two_ways(self):
        ring = ring_about(0, 0, 3, 3) + [(0, 0), (1, 0)] + ring_about(1, 1, 2, 2) + [(1, 1), (1, 0)]
        self.assertIs(is_ring(FLAT, ring), True)
        self.assertEqual(goes_round(ring, (1, 1)), goes_round_by_another_ray(ring, (1, 1)))
        self.assertEqual(goes_round(ring, (1, 1)), 2)
        self.assertEqual(goes_round(ring, (0, 2)), 1)

    def test_there_and_back_goes_round_nothing(self):
        for ring in ([(0, 0), (1, 0)], [(0, 0), (0, 1)], [(3, 3), (2, 3), (1, 3), (2, 3)]):
            for corner in corners_by_definition(FLAT):
                self.assertEqual(goes_round(ring, corner), 0)

    def test_against_another_ray(self):
        for chart, some in CHARTS_WITH_RINGS:
            high, wide = len(chart[1]), len(chart[1][0])
            for ring in some:
                for row in range(-1, high):
                    for column in range(-1, wide):
                        many = goes_round(ring, (row, column))
                        self.assertEqual(many, goes_round_by_another_ray(ring, (row, column)))
                        self.assertEqual(goes_round(ring[::-1], (row, column)), -many)
                        if row < 0 or column < 0 or row >= high - 1 or column >= wide - 1:
                            self.assertEqual(many, 0)

    def test_corners_far_off(self):
        for far in (FAR, -FAR, 9, -9):
            for corner in ((far, far), (0, far), (far, 0), (-far, far), (1, far), (far, 1)):
                self.assertEqual(goes_round(AROUND, corner), 0)

    def test_rings_far_off(self):
        for far in (FAR, -FAR):
            ring = ring_about(far, far, far + 2, far + 3)
            self.assertEqual(goes_round(ring, (far, far)), 1)
            self.assertEqual(goes_round(ring, (far + 1, far + 2)), 1)
            self.assertEqual(goes_round(ring, (far + 2, far + 2)), 0)
            self.assertEqual(goes_round(ring, (far + 1, far + 3)), 0)
            self.assertEqual(goes_round(ring, (0, 0)), 0)


class CountsByEyes(unittest.TestCase):
    def check(self, chart, ring):
        total = 0
        for corners, count in eyes(chart):
            many = goes_round(ring, corners[0])
            self.assertEqual([goes_round(ring, corner) for corner in corners], [many] * len(corners))
            total += count * many
        self.assertEqual(ring_count(chart, ring), total, (chart, ring))

    def test_sum_over_all_eyes(self):
        for chart, some in CHARTS_WITH_RINGS:
            for ring in some:
                self.check(chart, ring)

    def test_rings_round_land_and_seas_of_their_own(self):
        for chart in (NESTED, DOUBLE, WHIRL):
            for ring in rings_about(chart):
                self.check(chart, ring)

    def test_hours_changed_at_one_square(self):
        chance = random.Random(11)
        for chart, some in CHARTS_WITH_RINGS[::5]:
            for ring in some[:3]:
                clock, rows = chart
                row, column = chance.randrange(len(rows)), chance.randrange(len(rows[0]))
                if rows[row][column] >= 0:
                    changed = [list(one) for one in rows]
                    changed[row][column] = chance.randrange(clock)
                    other = (clock, tuple(tuple(one) for one in changed))
                    self.check(other, ring)
                    if (row, column) not in ring:
                        self.assertEqual(ring_count(other, ring), ring_count(chart, ring))


class Joined(unittest.TestCase):
    def test_from_the_first_shared_square_on(self):
        ring = [(0, 0), (0, 1), (1, 1), (1, 0)]
        other = [(2, 1), (2, 2), (1, 2), (1, 1)]
        self.assertEqual(joined(FLAT, ring, other),
                         [(1, 1), (1, 0), (0, 0), (0, 1), (1, 1), (2, 1), (2, 2), (1, 2)])
        self.assertEqual(joined(FLAT, other, ring),
                         [(1, 1), (2, 1), (2, 2), (1, 2), (1, 1), (1, 0), (0, 0), (0, 1)])

    def test_first_of_the_first_ring_not_of_the_other(self):
        ring = [(0, 0), (0, 1), (1, 1), (1, 0)]
        other = [(1, 1), (0, 1), (0, 2), (1, 2)]
        self.assertEqual(joined(FLAT, ring, other),
                         [(0, 1), (1, 1), (1, 0), (0, 0), (0, 1), (0, 2), (1, 2), (1, 1)])

    def test_where_it_first_stands_in_the_other(self):
        ring = [(1, 2), (0, 2)]
        self.assertEqual(joined(FLAT, ring, EIGHT[1:] + EIGHT[:1]),
                         [(1, 2), (0, 2)] + EIGHT[6:] + EIGHT[:6])
        self.assertEqual(joined(FLAT, EIGHT[3:] + EIGHT[:3], ring[:1] + [(2, 2)]),
                         EIGHT[6:] + EIGHT[:6] + [(1, 2), (2, 2)])

    def test_with_itself_and_turned_back(self):
        self.assertEqual(joined(FLAT, AROUND, AROUND), AROUND * 2)
        self.assertEqual(joined(FLAT, AROUND, AROUND[::-1]), AROUND + AROUND[:1] + AROUND[:0:-1])

    def test_is_a_ring_and_its_count_is_the_sum(self):
        met = 0
        for chart, some in CHARTS_WITH_RINGS:
            for ring in some[:5]:
                for other in some:
                    if set(ring) & set(other):
                        both = joined(chart, ring, other)
                        self.assertEqual(len(both), len(ring) + len(other))
                        self.assertEqual(both[0], [square for square in ring if square in other][0])
                        self.assertIs(is_ring(chart, both), True)
                        self.assertEqual(ring_count(chart, both), ring_count(chart, ring) + ring_count(chart, other))
                        met += 1
                    else:
                        self.assertRaises(BadRing, joined, chart, ring, other)
        self.assertGreater(met, 500)

    def test_refusals(self):
        for wrong in ([], [(0, 0)], AROUND[:-1], [(0, 0), (1, 1)], [(-1, 0), (0, 0)], [(FAR, 0), (FAR, 1)]):
            self.assertRaises(BadRing, joined, FLAT, wrong, AROUND)
            self.assertRaises(BadRing, joined, FLAT, AROUND, wrong)
            self.assertRaises(BadRing, joined, FLAT, wrong, wrong)
        self.assertRaises(BadRing, joined, FLAT, AROUND, ring_about(3, 3, 5, 5))
        self.assertRaises(BadRing, joined, FLAT, [(0, 0), (0, 1)], [(1, 0), (1, 1)])


class WhatIsHandedIn(unittest.TestCase):
    def test_wrong_charts_go_first(self):
        for chart in WRONG_CHARTS:
            for ring in ([], [(0, 0)], [(0, 0), (0, 1)], [(FAR, -FAR)], AROUND):
                self.assertRaises(BadChart, is_ring, chart, ring)
                self.assertRaises(BadChart, ring_count, chart, ring)
                self.assertRaises(BadChart, joined, chart, ring, AROUND)
                self.assertRaises(BadChart, joined, chart, AROUND, ring)

    def test_lists_stay_as_they_were(self):
        for chart, some in CHARTS_WITH_RINGS[::7]:
            for ring in some + [[], [(0, 0)], [(0, 0), (FAR, 1)]]:
                kept = list(ring)
                goes_round(ring, (0, 0))
                self.assertEqual(ring, kept)
                if is_ring(chart, ring):
                    ring_count(chart, ring)
                    joined(chart, ring, ring)
                else:
                    self.assertRaises(BadRing, ring_count, chart, ring)
                    self.assertRaises(BadRing, joined, chart, ring, ring)
                self.assertEqual(ring, kept)

    def test_lists_are_not_kept(self):
        ring, other = list(AROUND), list(AROUND)
        both = joined(FLAT, ring, other)
        ring.clear()
        other.reverse()
        self.assertEqual(both, AROUND * 2)
        self.assertIs(is_ring(FLAT, ring), False)
        self.assertEqual(ring_count(DOUBLE, other), -2)
        self.assertEqual(goes_round(other, (0, 0)), -1)

    def test_told_list_is_new(self):
        ring = list(AROUND)
        both = joined(FLAT, ring, ring)
        both.clear()
        self.assertEqual(ring, AROUND)
        self.assertEqual(joined(FLAT, ring, ring), AROUND * 2)

    def test_asked_again_is_told_alike(self):
        for chart, some in CHARTS_WITH_RINGS[::7]:
            for ring in some:
                self.assertEqual([is_ring(chart, ring), ring_count(chart, ring), joined(chart, ring, ring)],
                                 [is_ring(chart, ring), ring_count(chart, ring), joined(chart, ring, ring)])


if __name__ == "__main__":
    unittest.main()
