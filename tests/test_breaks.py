"""Breaks and prices: [1], [10], [11] and cotide.breaks."""

import inspect
import itertools
import random
import unittest

from cotide import breaks as module
from cotide.ages import ages, even, is_laid
from cotide.breaks import breaks_of, hold, lays, least_breaks, least_weight, prices, weight, worth
from cotide.errors import BadBreaks, BadChart, BadPrices
from samples import BACK_WHIRL, BARE, CALM, CLOCKS, DOUBLE, FAR, MIXED, NESTED, ONE, WHIRL, WRONG_CHARTS
from samples import at_their_hours, blank, breaks_by_definition, drawn_chart, eyes_by_definition, hours_alone
from samples import large_charts, lifted, parted_by_definition, sample_charts, seas_by_definition, sides_by_definition
from samples import told_by_definition, whirling

CHARTS = sample_charts() + large_charts()
# Its hours go round two corners, once each way, so one break between the two is enough.
PAIR = (3, ((0, 1, 0), (0, 2, 0)))
UP = ((0, 0), (0, 1))
DOWN = ((0, 0), (1, 0))


def copied(rows):
    return [list(row) for row in rows]


def lifted_at_random(chart, chance, most=3):
    told = told_by_definition(chart)
    some = chance.sample(told, chance.randint(0, len(told)))
    return lifted(chart, hours_alone(chart), {square: chance.randint(-most, most) for square in some})


def hold_by_definition(chart, some):
    known = [*some, 0]
    return all(abs(known[-1 if one is None else one] - known[-1 if other is None else other]) <= 1
               for one, other in parted_by_definition(chart))


def steps_from_outside(chart):
    """For each eye how many sides part it from the outside at least."""
    off = {None: 0}
    for _ in eyes_by_definition(chart):
        for one, other in parted_by_definition(chart):
            for here, there in ((one, other), (other, one)):
                if here in off:
                    off[there] = min(off.get(there, off[here] + 1), off[here] + 1)
    return [off[at] for at in range(len(eyes_by_definition(chart)))]


class Interface(unittest.TestCase):
    def test_names_and_arguments(self):
        for name, written in (("least_breaks", "(chart)"), ("least_weight", "(chart)"), ("weight", "(breaks)"),
                              ("lays", "(chart, breaks)"), ("breaks_of", "(chart, rows)"), ("prices", "(chart)"),
                              ("hold", "(chart, some)"), ("worth", "(chart, some)")):
            self.assertEqual(str(inspect.signature(getattr(module, name))), written)
            self.assertEqual(getattr(module, name).__module__, "cotide.breaks")

    def test_by_names(self):
        self.assertEqual(len(least_breaks(chart=WHIRL)), 1)
        self.assertEqual(least_weight(chart=WHIRL), 1)
        self.assertEqual(weight(breaks=[(*UP, -3)]), 3)
        self.assertEqual(lays(breaks=[(*UP, -1)], chart=WHIRL), [[0, -2], [0, -1]])
        self.assertEqual(breaks_of(rows=[[0, -2], [0, -1]], chart=WHIRL), [(*UP, -1)])
        self.assertEqual(prices(chart=WHIRL), [1])
        self.assertIs(hold(some=[1], chart=WHIRL), True)
        self.assertEqual(worth(some=[1], chart=WHIRL), 1)


class Weight(unittest.TestCase):
    def test_numbers_without_their_signs(self):
        self.assertEqual(weight([]), 0)
        self.assertEqual(weight([(*UP, 1)]), 1)
        self.assertEqual(weight([(*UP, -1), (*DOWN, 1)]), 2)
        self.assertEqual(weight([(*UP, -5), (*DOWN, 2)]), 7)
        self.assertEqual(weight([(*UP, FAR), (*DOWN, -FAR)]), 2 * FAR)

    def test_list_stays(self):
        some = [(*DOWN, 2), (*UP, -5)]
        weight(some)
        self.assertEqual(some, [(*DOWN, 2), (*UP, -5)])


class BreaksOf(unittest.TestCase):
    def test_some(self):
        self.assertEqual(breaks_of(WHIRL, [[0, 1], [0, 2]]), [((1, 0), (1, 1), 1)])
        self.assertEqual(breaks_of(WHIRL, [[0, 1], [3, 2]]), [(*DOWN, 1)])
        self.assertEqual(breaks_of(WHIRL, [[6, 1], [0, 2]]), [(*UP, -2), (*DOWN, -2), ((1, 0), (1, 1), 1)])
        self.assertEqual(breaks_of(ONE, [[0]]), [])
        self.assertEqual(breaks_of(ONE, [[-300]]), [])
        self.assertEqual(breaks_of(BARE, [[None, None], [None, None]]), [])

    def test_lifted_squares(self):
        chance = random.Random(31)
        for chart in CHARTS:
            for _ in range(4):
                rows = lifted_at_random(chart, chance)
                kept = copied(rows)
                found = breaks_of(chart, rows)
                self.assertEqual(found, breaks_by_definition(chart, rows))
                self.assertEqual(found, sorted(found))
                self.assertEqual(rows, kept)

    def test_none_just_where_ages_are_laid(self):
        chance = random.Random(32)
        for chart in CHARTS:
            rows = lifted_at_random(chart, chance, 1)
            self.assertIs(is_laid(chart, rows), breaks_of(chart, rows) == [])
            if even(chart):
                self.assertEqual(breaks_of(chart, ages(chart)), [])

    def test_forty_figures(self):
        rows = [[10 ** 39, 1], [0, 2]]
        self.assertEqual(breaks_of((3, ((1, 1), (0, 2))), rows),
                         [(*UP, -(10 ** 39 - 1) // 3), (*DOWN, -(10 ** 39 - 1) // 3), ((1, 0), (1, 1), 1)])

    def test_rows_that_are_no_ages(self):
        for chart in CHARTS[::3]:
            good = hours_alone(chart)
            told = told_by_definition(chart)
            wrong = [good[:-1], good + [good[0]], [], good[:-1] + [good[-1][:-1]], good[:-1] + [good[-1] + [None]]]
            for row in range(len(good)):
                for column in range(len(good[0])):
                    for other in ((None, good[row][column] + 1, good[row][column] - 2) if (row, column) in told
                                  else (0, chart[1][row][column])):
                        rows = copied(good)
                        rows[row][column] = other
                        wrong.append(rows)
            for rows in wrong:
                self.assertRaises(BadBreaks, breaks_of, chart, rows)

    def test_kinds(self):
        for chart in CHARTS[::5]:
            found = breaks_of(chart, hours_alone(chart))
            self.assertIs(type(found), list)
            for one in found:
                self.assertEqual([type(thing) for thing in (one, *one)], [tuple, tuple, tuple, int])


class Lays(unittest.TestCase):
    def check(self, chart, some):
        kept = list(some)
        self.assertRaises(BadBreaks, lays, chart, some)
        self.assertEqual(some, kept)

    def test_some(self):
        self.assertEqual(lays(WHIRL, [((1, 0), (1, 1), 1)]), [[0, 1], [0, 2]])
        self.assertEqual(lays(WHIRL, [((0, 1), (1, 1), -1)]), [[0, 1], [0, -1]])
        self.assertEqual(lays(CALM, []), ages(CALM))
        self.assertEqual(lays(BARE, []), [[None, None], [None, None]])
        self.assertEqual(lays((3, ((2, 2),)), [(*UP, 4)]), [[2, 14]])
        self.assertEqual(lays((3, ((2, 2),)), [(*UP, FAR)]), [[2, 2 + 3 * FAR]])

    def test_breaks_of_lifted_squares(self):
        chance = random.Random(33)
        for chart in CHARTS:
            for _ in range(3):
                rows = lifted_at_random(chart, chance)
                some = breaks_by_definition(chart, rows)
                chance.shuffle(some)
                kept = list(some)
                found = lays(chart, some)
                self.assertEqual(found, at_their_hours(chart, rows))
                self.assertEqual(some, kept)
                self.assertEqual(breaks_of(chart, found), sorted(some))
                for sea in seas_by_definition(chart):
                    row, column = sea[0]
                    self.assertEqual(found[row][column], chart[1][row][column])

    def test_side_left_out_twice_or_nought(self):
        chance = random.Random(34)
        spoilt = 0
        for chart in CHARTS:
            some = breaks_by_definition(chart, lifted_at_random(chart, chance))
            for at in range(0, len(some), 3):
                square, other, tides = some[at]
                self.check(chart, some + [some[at]])
                self.check(chart, some + [(square, other, -tides)])
                self.check(chart, some[:at] + [(other, square, tides)] + some[at + 1:])
                self.check(chart, some[:at] + [(other, square, -tides)] + some[at + 1:])
                self.check(chart, some[:at] + [(square, other, 0)] + some[at + 1:])
                for wrong in (((-1, 0), (0, 0)), ((0, 8), (0, 9)), ((FAR, 0), (FAR, 1)), (square, square),
                              (square, (square[0] + 1, square[1] + 1)), (square, (square[0], square[1] + 2))):
                    self.check(chart, some + [(*wrong, 1)])
                spoilt += 1
        self.assertGreater(spoilt, 1000)

    def test_side_twice_whose_numbers_come_to_the_same(self):
        self.check(WHIRL, [(*UP, -2), (*UP, 1)])
        self.check(CALM, [(*UP, 1), (*UP, -1)])
        self.check(CALM, [(*UP, 0)])
        self.check(WHIRL, [(*UP, -1), (*DOWN, 0)])

    def test_just_where_the_way_round_closes(self):
        # All numbers from -2 to 2 on the four sides of one corner.
        for chart, count in ((WHIRL, 1), (BACK_WHIRL, -1), ((5, blank(2, 2)), 0)):
            for a, b, c, d in itertools.product(range(-2, 3), repeat=4):
                some = [(*UP, a), (*DOWN, b), ((0, 1), (1, 1), c), ((1, 0), (1, 1), d)]
                some = [one for one in some if one[2]]
                if a + c - d - b == -count:
                    self.assertEqual(breaks_of(chart, lays(chart, some)), some)
                else:
                    self.check(chart, some)

    def test_squares_not_told(self):
        chart = (5, ((0, -1, 2), (1, -2, 3)))
        for wrong in (((0, 0), (0, 1)), ((0, 1), (0, 2)), ((0, 1), (1, 1)), ((1, 0), (1, 1)), ((1, 1), (1, 2))):
            self.check(chart, [(*wrong, 1)])
        self.assertEqual(lays(chart, [((0, 2), (1, 2), 1)]), [[0, None, 2], [1, None, 8]])

    def test_nothing_lays_a_knotted_chart(self):
        for chart in CHARTS:
            if even(chart):
                self.assertEqual(lays(chart, []), ages(chart))
            else:
                self.check(chart, [])

    def test_round_a_greater_eye(self):
        self.check(DOUBLE, [(*UP, -1)])
        self.check(DOUBLE, [(*UP, 2)])
        self.assertEqual(breaks_of(DOUBLE, lays(DOUBLE, [(*UP, -2)])), [(*UP, -2)])
        self.check(NESTED, [(*UP, -4)])
        self.check(NESTED, [(*UP, -5)])
        self.assertEqual(weight([(*UP, -5), ((2, 2), (2, 3), -1)]), 6)
        self.assertEqual(len(lays(NESTED, [(*UP, -5), ((2, 2), (2, 3), -1)])), 6)


class LeastBreaks(unittest.TestCase):
    def test_some(self):
        for chart, wanted in ((WHIRL, 1), (BACK_WHIRL, 1), (DOUBLE, 2), (PAIR, 1), (CALM, 0), (ONE, 0), (BARE, 0)):
            self.assertEqual([least_weight(chart), weight(least_breaks(chart))], [wanted, wanted])
        self.assertEqual(least_breaks(PAIR), [((0, 1), (1, 1), -1)])
        # Of the five tides of the outer sea one is the inner sea's own, which no break of the outer one takes away.
        self.assertEqual(least_weight(NESTED), 6)

    def test_whirls_in_the_middle(self):
        for clock in CLOCKS:
            for many in range(3, 10):
                chart = whirling(many, many, clock)
                self.assertEqual(least_weight(chart), many // 2)

    def test_they_lay_ages_and_prices_prove_them(self):
        knotted = 0
        for chart in CHARTS:
            some = least_breaks(chart)
            self.assertEqual(some, sorted(some))
            self.assertEqual(breaks_by_definition(chart, lays(chart, some)), some)
            proof = prices(chart)
            self.assertIs(hold_by_definition(chart, proof), True)
            total = sum(count * price for (_, count), price in zip(eyes_by_definition(chart), proof))
            self.assertEqual([weight(some), least_weight(chart), total, worth(chart, proof)], [total] * 4)
            self.assertIs(hold(chart, proof), True)
            self.assertIs(least_weight(chart) == 0, even(chart))
            knotted += not even(chart)
        self.assertGreater(knotted, 80)

    def test_small_charts_against_all_lifted_ages(self):
        chance = random.Random(35)
        for high, wide, many in ((1, 3, 5), (2, 2, 40), (2, 3, 40), (3, 2, 20), (3, 3, 4)):
            for _ in range(many):
                chart = drawn_chart(chance, high, wide, chance.choice((3, 5, 7)), 0.05, 0.05)
                told = told_by_definition(chart)
                base = lays(chart, least_breaks(chart))
                least = min(weight(breaks_by_definition(chart, lifted(chart, base, dict(zip(told, tides)))))
                            for tides in itertools.product((-1, 0, 1), repeat=len(told)))
                self.assertEqual(least_weight(chart), least, chart)

    def test_no_lifted_ages_have_less(self):
        chance = random.Random(36)
        for chart in CHARTS:
            rows = lifted_at_random(chart, chance, 1)
            self.assertLessEqual(least_weight(chart), weight(breaks_of(chart, rows)))

    def test_kinds(self):
        for chart in CHARTS:
            self.assertIs(type(least_breaks(chart)), list)
            for one in least_breaks(chart):
                self.assertEqual([type(thing) for thing in (one, *one)], [tuple, tuple, tuple, int])
                self.assertIn(one[:2], sides_by_definition(chart))
            self.assertIs(type(least_weight(chart)), int)
            self.assertIs(type(prices(chart)), list)
            self.assertEqual({type(one) for one in prices(chart)} - {int}, set())


class Prices(unittest.TestCase):
    def test_some(self):
        self.assertEqual(prices(WHIRL), [1])
        self.assertEqual(prices(BACK_WHIRL), [-1])
        self.assertEqual([worth(PAIR, prices(PAIR)), hold(PAIR, prices(PAIR))], [1, True])
        for chart in (ONE, BARE, MIXED, (3, blank(9, 1)), (3, blank(1, 9))):
            self.assertEqual([prices(chart), hold(chart, []), worth(chart, [])], [[], True, 0])

    def test_hold_at_the_outside(self):
        for chart in (WHIRL, BACK_WHIRL, DOUBLE, (15, blank(2, 2))):
            for price in (-FAR, -3, -2, -1, 0, 1, 2, 3, FAR):
                self.assertIs(hold(chart, [price]), -1 <= price <= 1)

    def test_hold_between_two_eyes(self):
        for one, other in itertools.product(range(-3, 4), repeat=2):
            self.assertIs(hold(PAIR, [one, other]), abs(one) <= 1 and abs(other) <= 1 and abs(one - other) <= 1)

    def test_hold_deep_within(self):
        chart = (3, blank(9, 9))
        deep = steps_from_outside(chart)
        self.assertEqual(max(deep), 4)
        self.assertIs(hold(chart, deep), True)
        self.assertIs(hold(chart, [-one for one in deep]), True)
        for at in range(len(deep)):
            self.assertIs(hold(chart, deep[:at] + [deep[at] + 1] + deep[at + 1:]), False)

    def test_hold_and_worth_of_drawn_prices(self):
        chance = random.Random(37)
        held = [0, 0]
        for chart in CHARTS:
            found = eyes_by_definition(chart)
            for most in (0, 0, 1, 2):
                some = [chance.randint(-most, most) for _ in found]
                if most == 0:
                    for at in chance.sample(range(len(some)), min(2, len(some))):
                        some[at] = chance.choice((-1, 1, 2))
                kept = list(some)
                self.assertIs(hold(chart, some), hold_by_definition(chart, some))
                self.assertEqual(worth(chart, some), sum(count * one for (_, count), one in zip(found, some)))
                self.assertEqual(some, kept)
                held[hold(chart, some)] += 1
                if hold(chart, some):
                    self.assertLessEqual(worth(chart, some), least_weight(chart))
        self.assertGreater(min(held), 100)

    def test_worth_of_prices_that_do_not_hold(self):
        self.assertEqual(worth(WHIRL, [FAR]), FAR)
        self.assertEqual(worth(BACK_WHIRL, [FAR]), -FAR)
        self.assertEqual(worth(DOUBLE, [7]), 14)
        self.assertEqual(worth(PAIR, [5, 3]), 2)
        self.assertEqual(worth(NESTED, [2, -3]), 5)

    def test_lists_of_another_length(self):
        for chart in CHARTS[::2]:
            many = len(eyes_by_definition(chart))
            for other in {0, 1, many - 1, many + 1, many + 2, 64} - {many, -1}:
                self.assertRaises(BadPrices, hold, chart, [0] * other)
                self.assertRaises(BadPrices, worth, chart, [0] * other)
            self.assertIs(hold(chart, [0] * many), True)
            self.assertEqual(worth(chart, [0] * many), 0)


class WhatIsHandedInAndTold(unittest.TestCase):
    def test_wrong_charts_go_first(self):
        for chart in WRONG_CHARTS:
            for function in (least_breaks, least_weight, prices):
                self.assertRaises(BadChart, function, chart)
            for some in ([], [(*UP, 1)], [(*UP, 0)], [((FAR, 0), (9, 9), 0)] * 2):
                self.assertRaises(BadChart, lays, chart, some)
            for rows in ([], [[]], [[0]], [[None]], [[FAR], [None, 0]], copied(chart[1])):
                self.assertRaises(BadChart, breaks_of, chart, rows)
            for some in ([], [0], [FAR] * 70):
                self.assertRaises(BadChart, hold, chart, some)
                self.assertRaises(BadChart, worth, chart, some)

    def test_changed_lists_do_not_change_what_is_told_again(self):
        for chart in (WHIRL, DOUBLE, NESTED, PAIR, whirling(9, 9, 13)):
            for function in (least_breaks, prices):
                first = function(chart)
                kept = list(first)
                first.clear()
                self.assertEqual(function(chart), kept)
            some = least_breaks(chart)
            first = lays(chart, some)
            kept = copied(first)
            for row in first:
                row[0] = FAR
            self.assertEqual(lays(chart, some), kept)
            first = breaks_of(chart, kept)
            first.append(1)
            self.assertEqual(breaks_of(chart, kept), some)

    def test_rows_share_no_list(self):
        first = lays((3, blank(3, 3)), [])
        first[0][0] = 7
        self.assertEqual(first, [[7, 0, 0], [0, 0, 0], [0, 0, 0]])

    def test_asked_again_is_told_alike(self):
        for chart in CHARTS[::4]:
            self.assertEqual([least_breaks(chart), prices(chart)], [least_breaks(chart), prices(chart)])
        for _ in range(2):
            self.assertRaises(BadBreaks, lays, WHIRL, [])
            self.assertEqual(least_weight(WHIRL), 1)


if __name__ == "__main__":
    unittest.main()
