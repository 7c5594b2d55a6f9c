"""Clocks, steps and rounds: [1], [2], [3] and cotide.hours."""

import inspect
import itertools
import random
import unittest

from cotide import hours
from cotide.errors import BadClock, BadHour
from cotide.hours import after, is_clock, rounds, step
from samples import CLOCKS, FAR, steps_by_search

WRONG_CLOCKS = (-FAR, -13, -3, -1, 0, 1, 2, 4, 6, 8, 10, 12, 14, 16, 17, 19, 21, 101, 10 ** 39 + 1, FAR, FAR - 1)


def wrong_hours(clock):
    return (-FAR, -clock, -2, -1, clock, clock + 1, 2 * clock, FAR)


class Interface(unittest.TestCase):
    def test_names_arguments_and_defaults(self):
        for name, written in (("is_clock", "(clock)"), ("step", "(clock, one, other)"),
                              ("after", "(clock, hour, by=1)"), ("rounds", "(clock, hours)")):
            self.assertEqual(str(inspect.signature(getattr(hours, name))), written)
            self.assertEqual(getattr(hours, name).__module__, "cotide.hours")

    def test_by_names(self):
        self.assertIs(is_clock(clock=13), True)
        self.assertEqual(step(other=1, one=12, clock=13), 2)
        self.assertEqual(after(hour=12, clock=13), 0)
        self.assertEqual(after(by=3, hour=12, clock=13), 2)
        self.assertEqual(rounds(hours=[0, 1, 2], clock=3), 1)


class Clocks(unittest.TestCase):
    def test_odd_numbers_from_3_to_15(self):
        for number in range(-40, 60):
            self.assertIs(is_clock(number), number in CLOCKS, number)

    def test_wrong_and_far_numbers(self):
        for number in WRONG_CLOCKS:
            self.assertIs(is_clock(number), False, number)


class Steps(unittest.TestCase):
    def test_all_pairs_of_all_clocks(self):
        for clock in CLOCKS:
            for one, other in itertools.product(range(clock), repeat=2):
                self.assertEqual([step(clock, one, other)], steps_by_search(clock, one, other))

    def test_step_back_is_as_much_the_other_way(self):
        for clock in CLOCKS:
            for one, other in itertools.product(range(clock), repeat=2):
                self.assertEqual(step(clock, other, one), -step(clock, one, other))

    def test_nought_just_between_like_hours(self):
        for clock in CLOCKS:
            for one, other in itertools.product(range(clock), repeat=2):
                self.assertEqual(step(clock, one, other) == 0, one == other)

    def test_some_steps(self):
        self.assertEqual(step(13, 12, 0), 1)
        self.assertEqual(step(13, 0, 12), -1)
        self.assertEqual(step(13, 0, 6), 6)
        self.assertEqual(step(13, 0, 7), -6)
        self.assertEqual(step(3, 0, 2), -1)
        self.assertEqual(step(15, 14, 6), 7)

    def test_wrong_clock(self):
        for clock in WRONG_CLOCKS:
            self.assertRaises(BadClock, step, clock, 0, 0)

    def test_wrong_hours(self):
        for clock in CLOCKS:
            for wrong in wrong_hours(clock):
                self.assertRaises(BadHour, step, clock, wrong, 0)
                self.assertRaises(BadHour, step, clock, 0, wrong)
                self.assertRaises(BadHour, step, clock, wrong, wrong)

    def test_clock_is_refused_first(self):
        for clock in WRONG_CLOCKS:
            self.assertRaises(BadClock, step, clock, -1, FAR)


class LaterHours(unittest.TestCase):
    def test_one_later_where_left_out(self):
        for clock in CLOCKS:
            for hour in range(clock):
                self.assertEqual(after(clock, hour), 0 if hour == clock - 1 else hour + 1)

    def test_either_sign(self):
        for clock in CLOCKS:
            for hour in range(clock):
                for by in range(-3 * clock, 3 * clock + 1):
                    told = after(clock, hour, by)
                    self.assertIn(told, range(clock))
                    self.assertEqual((told - hour - by) % clock, 0)

    def test_up_to_forty_figures(self):
        for clock in CLOCKS:
            for by in (FAR, -FAR, FAR - 1, 10 ** 39, -10 ** 39):
                for hour in range(clock):
                    told = after(clock, hour, by)
                    self.assertIn(told, range(clock))
                    self.assertEqual((told - hour - by) % clock, 0)

    def test_some(self):
        self.assertEqual(after(13, 12), 0)
        self.assertEqual(after(13, 0, -1), 12)
        self.assertEqual(after(13, 5, 0), 5)
        self.assertEqual(after(5, 4, by=-9), 0)
        self.assertEqual(after(3, 0, by=10 ** 39), 1)

    def test_refusals(self):
        for clock in WRONG_CLOCKS:
            self.assertRaises(BadClock, after, clock, 0)
            self.assertRaises(BadClock, after, clock, -1, 5)
        for clock in CLOCKS:
            for wrong in wrong_hours(clock):
                self.assertRaises(BadHour, after, clock, wrong)
                # A step that leads back onto the clock does not make the hour good.
                self.assertRaises(BadHour, after, clock, wrong, -wrong)


class Rounds(unittest.TestCase):
    def test_empty_list_and_one_hour(self):
        for clock in CLOCKS:
            self.assertEqual(rounds(clock, []), 0)
            for hour in range(clock):
                self.assertEqual(rounds(clock, [hour]), 0)
                self.assertEqual(rounds(clock, [hour, hour]), 0)

    def test_whole_clock_forward_and_back(self):
        for clock in CLOCKS:
            self.assertEqual(rounds(clock, list(range(clock))), 1)
            self.assertEqual(rounds(clock, list(range(clock))[::-1]), -1)
            self.assertEqual(rounds(clock, list(range(clock)) * 4), 4)

    def test_largest_steps(self):
        self.assertEqual(rounds(13, [0, 6, 12, 5, 11]), 2)
        self.assertEqual(rounds(13, [0, 4, 8]), 1)
        self.assertEqual(rounds(13, [0, 6]), 0)
        self.assertEqual(rounds(15, [0, 8, 1, 9, 2]), -2)

    def test_short_lists_against_the_definition(self):
        for clock in (3, 5):
            for many in range(1, 5):
                for some in itertools.product(range(clock), repeat=many):
                    self.check_by_definition(clock, list(some))

    def check_by_definition(self, clock, some):
        following = some[1:] + some[:1]
        total = sum(steps_by_search(clock, one, other)[0] for one, other in zip(some, following))
        self.assertEqual(total % clock, 0)
        self.assertEqual(rounds(clock, some) * clock, total)

    def test_turned_begun_elsewhere_and_twice(self):
        chance = random.Random(1)
        for clock in CLOCKS:
            for many in range(1, 30):
                some = [chance.randrange(clock) for _ in range(many)]
                count = rounds(clock, some)
                self.check_by_definition(clock, some)
                self.assertEqual(rounds(clock, some[::-1]), -count)
                self.assertEqual(rounds(clock, some + some), 2 * count)
                begun = chance.randrange(many)
                self.assertEqual(rounds(clock, some[begun:] + some[:begun]), count)

    def test_refusals(self):
        for clock in WRONG_CLOCKS:
            self.assertRaises(BadClock, rounds, clock, [])
            self.assertRaises(BadClock, rounds, clock, [0])
            self.assertRaises(BadClock, rounds, clock, [-1, FAR])
        for clock in CLOCKS:
            for wrong in wrong_hours(clock):
                for some in ([wrong], [wrong, 0], [0, wrong], [0, 1, wrong, 2]):
                    self.assertRaises(BadHour, rounds, clock, some)

    def test_list_stays_as_it_was(self):
        some = [0, 4, 8, 12, 3]
        self.assertEqual(rounds(13, some), rounds(13, some))
        self.assertEqual(some, [0, 4, 8, 12, 3])
        for clock, wrong in ((13, [3, 13, 1]), (4, [3, 13, 1])):
            self.assertRaises((BadClock, BadHour), rounds, clock, wrong)
            self.assertEqual(wrong, [3, 13, 1])

    def test_list_is_not_kept(self):
        some = [0, 1, 2]
        self.assertEqual(rounds(3, some), 1)
        some.reverse()
        self.assertEqual(rounds(3, some), -1)


if __name__ == "__main__":
    unittest.main()
