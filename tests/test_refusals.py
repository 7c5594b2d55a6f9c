"""What holds at every function of the program that is handed a chart: [1] and [4]."""

import importlib
import inspect
import random
import unittest

from cotide.errors import BadChart, TideError
from samples import FAR, MIXED, NESTED, WHIRL, WRONG_CHARTS, sample_charts

# What stands beside a chart, good in some cases and wrong in most.
BESIDE = {
    "square": [(0, 0), (-1, 0), (FAR, -FAR)],
    "corner": [(0, 0), (-1, 0), (FAR, -FAR)],
    "ring": [[], [(0, 0), (0, 1)], [(FAR, 0)]],
    "other": [[], [(0, 0), (0, 1)], [(FAR, 0)]],
    "rows": [[], [[0]], [[None, FAR], []]],
    "breaks": [[], [((0, 0), (0, 1), 1)], [((0, 0), (9, 9), 0)] * 2],
    "some": [[], [0], [FAR] * 70],
    "patch": [WHIRL, MIXED, (4, ((0,),))],
    "by": [0, -FAR],
    "top": [0, -1, FAR],
    "left": [0, -1, FAR],
    "columns": [1, 0, -FAR],
}
HIGH = [1, 0, FAR]
# Every function of the interface that is handed a chart, but is_chart, which tells whether it is one.
HANDED_A_CHART = {
    "grids": ("size", "hour_at", "told", "sides", "seas"),
    "rings": ("is_ring", "ring_count", "joined"),
    "eyes": ("eyes", "knots", "eye_at", "whole_count"),
    "ages": ("even", "ages", "is_laid"),
    "breaks": ("least_breaks", "least_weight", "lays", "breaks_of", "prices", "hold", "worth"),
    "fills": ("fill", "can_fill", "bar", "is_bar", "may_be"),
    "patches": ("cut", "turned", "mirrored", "later", "laid_in"),
    "pages": ("chart_text",),
}


def functions():
    return [getattr(importlib.import_module(f"cotide.{file}"), name)
            for file, names in HANDED_A_CHART.items() for name in names]


def arguments_beside(function, chance):
    """Arguments for all that the function takes behind its chart."""
    names = list(inspect.signature(function).parameters)[1:]
    return [chance.choice(HIGH if name == "rows" and function.__name__ == "cut" else BESIDE[name]) for name in names]


class WrongCharts(unittest.TestCase):
    def test_go_ahead_of_all_else_at_every_function(self):
        chance = random.Random(61)
        for function in functions():
            for chart in WRONG_CHARTS:
                for _ in range(6):
                    arguments = arguments_beside(function, chance)
                    self.assertRaises(BadChart, function, chart, *arguments)


class WhatIsHandedIn(unittest.TestCase):
    def test_lists_stay_as_they_were(self):
        chance = random.Random(62)
        for function in functions():
            for chart in [WHIRL, NESTED, MIXED] + sample_charts()[::20]:
                for _ in range(4):
                    arguments = arguments_beside(function, chance)
                    kept = repr(arguments)
                    try:
                        function(chart, *arguments)
                    except TideError:
                        pass
                    self.assertEqual(repr(arguments), kept)


if __name__ == "__main__":
    unittest.main()
