"""An atlas: [1], [17] and cotide.atlas."""

import collections
import inspect
import random
import time
import unittest

from books import NAMES, WRONG_DEEDS, WRONG_NAMES, PlainAtlas, refusals, some_deed, some_number
from cotide.ages import ages
from cotide.atlas import Atlas
from cotide.breaks import least_weight
from cotide.errors import BadClock, BadDay, BadDeed, BadHour, BadName, BadSquare, Full, Knotted, NoChart, NoEntry
from cotide.errors import NoFill, NothingLeft, Taken, TideError, Unlike
from cotide.eyes import knots, whole_count
from cotide.fills import bar, fill, may_be
from cotide.log import Log
from samples import CALM, DOUBLE, FAR, MIXED, NESTED, WHIRL, blank, large_charts, sample_charts

METHODS = {
    "do": "(self, deed)", "begin": "(self, name, clock=13, high=9, wide=9)",
    "tell": "(self, name, row, column, one, day=0)", "undo": "(self)", "redo": "(self)", "deeds": "(self)",
    "twin": "(self)", "names": "(self)", "log": "(self, name)", "days": "(self, name)",
    "chart": "(self, name, day=999)", "knots": "(self, name, day=999)", "whole": "(self, name, day=999)",
    "ages": "(self, name, day=999)", "weight": "(self, name, day=999)", "fill": "(self, name, day=999)",
    "bar": "(self, name, day=999)", "may_be": "(self, name, row, column, day=999)",
}
ASKED_BY_DAY = {"knots": knots, "whole": whole_count, "ages": ages, "weight": least_weight, "fill": fill, "bar": bar}
DAYS = (0, 1, 2, 5, 999)


def told_chart(atlas, name, chart, day=0):
    """Begin a chart and tell of all its squares on a day."""
    clock, rows = chart
    atlas.begin(name, clock, len(rows), len(rows[0]))
    for row, some in enumerate(rows):
        for column, one in enumerate(some):
            if one != -2:
                atlas.tell(name, row, column, one, day)


def outcome(act, *arguments):
    """What is told, or the class of the refusal and its number."""
    try:
        return act(*arguments)
    except (TideError, NoEntry) as error:
        return (type(error), getattr(error, "many", None))


def entries_of(atlas):
    return {name: (atlas.log(name).entries(), atlas.chart(name)) for name in atlas.names()}


def state(atlas):
    """All that an atlas tells of its deeds and charts, numbers to come and what was taken back too."""
    ahead = []
    twin = atlas.twin()
    while type(outcome(twin.redo)) is tuple and len(twin.deeds()) > len(atlas.deeds()) + len(ahead):
        ahead.append((twin.deeds()[-1], entries_of(twin)))
    coming = {name: atlas.log(name).add(0, 0, 0) for name in atlas.names() if len(atlas.log(name)) < 200}
    return (len(atlas), atlas.names(), atlas.deeds(), entries_of(atlas), ahead, coming)


class WithACheck(unittest.TestCase):
    def check_alike(self, atlas, plain):
        self.assertEqual(atlas.deeds(), plain.deeds())
        self.assertEqual(atlas.names(), sorted(plain.books))
        self.assertEqual(len(atlas), len(plain.books))
        self.assertIs(bool(atlas), bool(plain.books))
        for name, book in plain.books.items():
            log = atlas.log(name)
            self.assertEqual(log.entries(), book.entries())
            self.assertEqual(atlas.days(name), sorted({row[1] for row in book.rows}))
            for day in DAYS[::2]:
                self.assertEqual(atlas.chart(name, day), book.chart(day))
            if len(log) < 200:
                self.assertEqual(log.add(0, 0, 0), book.added + 1)


class Interface(unittest.TestCase):
    def test_names_and_arguments(self):
        self.assertEqual(str(inspect.signature(Atlas)), "()")
        for name, written in METHODS.items():
            self.assertEqual(str(inspect.signature(Atlas.__dict__[name])), written)
        self.assertEqual(Atlas.__module__, "cotide.atlas")

    def test_by_names_and_with_things_left_out(self):
        atlas = Atlas()
        self.assertIsNone(atlas.begin(name="a"))
        self.assertEqual(atlas.chart("a"), (13, blank(9, 9, -2)))
        self.assertIsNone(atlas.begin(wide=3, high=2, clock=5, name="b"))
        self.assertEqual(atlas.tell(one=4, column=1, row=0, name="b"), 1)
        self.assertEqual(atlas.tell(day=3, one=-1, column=1, row=0, name="b"), 2)
        self.assertEqual(atlas.deeds(), [("begin", "a", 13, 9, 9), ("begin", "b", 5, 2, 3),
                                         ("tell", "b", 0, 1, 4, 0), ("tell", "b", 0, 1, -1, 3)])
        self.assertIsNone(atlas.do(deed=("drop", "a")))
        self.assertEqual(atlas.chart(day=2, name="b"), (5, ((-2, 4, -2), (-2, -2, -2))))
        self.assertEqual(atlas.may_be(column=1, row=0, name="b", day=0), [4])
        self.assertEqual(atlas.may_be("b", 0, 0), [0, 1, 2, 3, 4])
        self.assertEqual([atlas.log(name="b").last_day(), atlas.days(name="b")], [3, [0, 3]])
        for name in ASKED_BY_DAY:
            self.assertEqual(getattr(atlas, name)(day=3, name="b"), getattr(atlas, name)("b"))


class DrawnDeeds(WithACheck):
    def test_against_a_plain_atlas(self):
        chance = random.Random(81)
        seen = collections.Counter()
        for _ in range(25):
            atlas, plain = Atlas(), PlainAtlas()
            for _ in range(160):
                word = chance.choice(("do",) * 9 + ("undo", "undo", "redo"))
                arguments = (some_deed(chance),) if word == "do" else ()
                if word == "do":
                    due = refusals(plain.books, *arguments)
                    seen[(arguments[0][:1], tuple(due[:2]))] += 1
                self.assertEqual(outcome(getattr(atlas, word), *arguments), outcome(getattr(plain, word), *arguments))
            self.check_alike(atlas, plain)
        for word in ("begin", "tell", "right", "strike", "drop", "lay"):
            self.assertGreater(seen[((word,), ())], 10, word)
        for word, some in (("begin", (BadName, Taken, BadClock, BadSquare)), ("tell", (NoChart, BadSquare, BadHour,
                           BadDay)), ("right", (NoChart, NoEntry, BadHour)), ("strike", (NoChart, NoEntry)),
                           ("drop", (NoChart,)), ("lay", (NoChart, BadDay, Unlike, BadSquare))):
            for error in some:
                self.assertTrue(any(key[0] == (word,) and key[1][:1] == (error,) for key in seen), (word, error))

    def test_checked_at_every_step(self):
        chance = random.Random(82)
        for _ in range(4):
            atlas, plain = Atlas(), PlainAtlas()
            for _ in range(120):
                word = chance.choice(("do",) * 9 + ("undo", "redo"))
                arguments = (some_deed(chance),) if word == "do" else ()
                self.assertEqual(outcome(getattr(atlas, word), *arguments), outcome(getattr(plain, word), *arguments))
                self.check_alike(atlas, plain)

    def test_all_taken_back_to_nothing_and_done_again(self):
        chance = random.Random(83)
        for _ in range(6):
            atlas, plain = Atlas(), PlainAtlas()
            states = [state(atlas)[:4]]
            while len(atlas.deeds()) < 60:
                deed = some_deed(chance)
                outcome(plain.do, deed)
                if type(outcome(atlas.do, deed)) is not tuple:
                    states.append(state(atlas)[:4])
            for at in range(59, -1, -1):
                self.assertEqual(atlas.undo(), plain.undo())
                self.assertEqual(state(atlas)[:4], states[at])
            self.assertRaises(NothingLeft, atlas.undo)
            self.assertEqual([len(atlas), atlas.names(), atlas.deeds(), bool(atlas)], [0, [], [], False])
            for at in range(1, 61):
                self.assertEqual(atlas.redo(), plain.redo())
                self.assertEqual(state(atlas)[:4], states[at])
            self.assertRaises(NothingLeft, atlas.redo)
            self.check_alike(atlas, plain)

    def test_refused_deeds_leave_all_as_it_was(self):
        chance = random.Random(84)
        for _ in range(5):
            atlas, plain = Atlas(), PlainAtlas()
            for _ in range(60):
                deed = some_deed(chance)
                outcome(atlas.do, deed)
                outcome(plain.do, deed)
            for _ in range(3):
                atlas.undo()
                plain.undo()
            kept = state(atlas)
            self.assertEqual(len(kept[4]), 3)
            refused = 0
            while refused < 30:
                deed = some_deed(chance)
                if refusals(plain.books, deed):
                    self.assertEqual(outcome(atlas.do, deed), outcome(plain.do, deed))
                    self.assertEqual(state(atlas), kept)
                    refused += 1


class Deeds(unittest.TestCase):
    def test_tuples_that_are_none(self):
        atlas = Atlas()
        for _ in range(2):
            for deed in WRONG_DEEDS:
                self.assertRaises(BadDeed, atlas.do, deed)
            if not atlas:
                told_chart(atlas, "a", CALM)
        self.assertRaises(BadDeed, atlas.do, ("begin", "A", 4, 0, 0, 0))
        self.assertRaises(BadDeed, atlas.do, ("tell", "x", FAR, FAR, FAR))

    def test_what_is_told(self):
        atlas = Atlas()
        self.assertIsNone(atlas.do(("begin", "a", 5, 2, 2)))
        self.assertEqual(atlas.do(("tell", "a", 0, 0, 1, 0)), 1)
        self.assertEqual(atlas.do(("tell", "a", 0, 1, -1, 0)), 2)
        self.assertIsNone(atlas.do(("right", "a", 1, 2)))
        self.assertIsNone(atlas.do(("strike", "a", 2)))
        self.assertEqual(atlas.do(("lay", "a", "a", 0, 0, 0)), 1)
        self.assertIsNone(atlas.do(("begin", "b", 5, 1, 1)))
        self.assertEqual(atlas.do(("lay", "a", "b", 0, 0, 0)), 0)
        self.assertIsNone(atlas.do(("drop", "a")))
        self.assertEqual(len(atlas.deeds()), 9)

    def test_names(self):
        for name in WRONG_NAMES + ["abcdefghijk", "a.", "{", "`", "aB"]:
            self.assertRaises(BadName, Atlas().begin, name)
            self.assertRaises(BadName, Atlas().begin, name, 4, 0, 0)
        atlas = Atlas()
        for name in ("a", "z", "abcdefgh", "zzzzzzzz", "az"):
            atlas.begin(name)
        self.assertEqual(atlas.names(), ["a", "abcdefgh", "az", "z", "zzzzzzzz"])

    def test_begin_refusals_in_order(self):
        atlas = Atlas()
        for name in "abcdefgh":
            atlas.begin(name, 5, 2, 2)
        self.assertEqual(len(atlas), 8)
        self.assertRaises(BadName, atlas.begin, "A", 4, 0, 0)
        self.assertRaises(Taken, atlas.begin, "a", 4, 0, 0)
        self.assertRaises(BadClock, atlas.begin, "z", 4, 0, 0)
        self.assertRaises(BadSquare, atlas.begin, "z", 5, 0, 0)
        self.assertRaises(BadSquare, atlas.begin, "z", 5, 1, 10)
        self.assertRaises(BadSquare, atlas.begin, "z", 5, 10, 1)
        self.assertRaises(Full, atlas.begin, "z", 5, 1, 1)
        atlas.do(("drop", "c"))
        atlas.begin("z", 5, 1, 1)
        self.assertRaises(Full, atlas.begin, "c", 5, 1, 1)
        self.assertEqual(atlas.names(), ["a", "b", "d", "e", "f", "g", "h", "z"])

    def test_no_chart_goes_ahead_of_all_numbers(self):
        atlas = Atlas()
        atlas.begin("a", 5, 2, 2)
        for name in ["b"] + WRONG_NAMES:
            for deed in (("tell", name, FAR, -FAR, FAR, -1), ("right", name, -1, FAR), ("strike", name, 0),
                         ("drop", name), ("lay", name, "a", -1, FAR, 1000), ("lay", "a", name, -1, FAR, 1000),
                         ("lay", name, name, 0, 0, 0)):
                self.assertRaises(NoChart, atlas.do, deed)

    def test_begun_again_under_the_same_name(self):
        atlas = Atlas()
        atlas.begin("a", 5, 2, 2)
        atlas.tell("a", 0, 0, 1)
        atlas.do(("drop", "a"))
        atlas.begin("a", 3, 1, 1)
        self.assertEqual(atlas.tell("a", 0, 0, 1), 1)
        for _ in range(3):
            atlas.undo()
        self.assertEqual(atlas.tell("a", 0, 0, 1), 2)

    def test_no_entry_tells_how_many_stand(self):
        atlas = Atlas()
        atlas.begin("a", 5, 2, 2)
        for many in range(3):
            for deed in (("strike", "a", 9), ("right", "a", 9, 0), ("right", "a", 9, 99)):
                with self.assertRaises(NoEntry) as caught:
                    atlas.do(deed)
                self.assertEqual(caught.exception.many, many)
            atlas.tell("a", 0, 0, 0)

    def test_two_hundred_entries(self):
        atlas = Atlas()
        atlas.begin("a", 5, 2, 2)
        for number in range(1, 201):
            self.assertEqual(atlas.tell("a", 0, 0, 1), number)
        for arguments, error in (((2, 0, 5, 1000), BadSquare), ((0, 0, 5, 1000), BadHour), ((0, 0, 0, 1000), BadDay),
                                 ((0, 0, 0, 0), Full)):
            self.assertRaises(error, atlas.tell, "a", *arguments)
        atlas.do(("strike", "a", 4))
        self.assertEqual(atlas.tell("a", 0, 0, 1), 201)
        self.assertRaises(Full, atlas.tell, "a", 0, 0, 0)
        self.assertEqual(len(atlas.log("a")), 200)


class Lay(unittest.TestCase):
    def test_land_and_told_squares_row_by_row(self):
        atlas = Atlas()
        told_chart(atlas, "patch", (5, ((1, -1, -2), (-2, 3, 4))), 7)
        atlas.begin("a", 5, 3, 4)
        atlas.tell("a", 1, 3, 2, 7)
        atlas.tell("a", 2, 1, 2, 8)
        self.assertEqual(atlas.do(("lay", "a", "patch", 1, 1, 7)), 4)
        self.assertEqual(atlas.log("a").entries(), [(1, 7, 1, 3, 2), (3, 7, 1, 1, 1), (4, 7, 1, 2, -1),
                                                    (5, 7, 2, 2, 3), (6, 7, 2, 3, 4), (2, 8, 2, 1, 2)])
        self.assertEqual(atlas.chart("a", 7), (5, ((-2,) * 4, (-2, 1, -1, 2), (-2, -2, 3, 4))))
        self.assertEqual(atlas.do(("lay", "a", "patch", 0, 0, 6)), 0)
        self.assertEqual(atlas.do(("lay", "a", "patch", 0, 0, 9)), 4)
        self.assertEqual(atlas.undo(), ("lay", "a", "patch", 0, 0, 9))
        self.assertEqual(atlas.undo(), ("lay", "a", "patch", 0, 0, 6))
        atlas.undo()
        self.assertEqual(atlas.log("a").entries(), [(1, 7, 1, 3, 2), (2, 8, 2, 1, 2)])
        self.assertEqual(atlas.tell("a", 0, 0, 0), 3)

    def test_into_itself(self):
        atlas = Atlas()
        atlas.begin("a", 5, 2, 2)
        for column in (0, 1):
            atlas.tell("a", 1, column, 2 + column)
        self.assertEqual(atlas.do(("lay", "a", "a", 0, 0, 5)), 2)
        self.assertEqual(atlas.log("a").entries(), [(1, 0, 1, 0, 2), (2, 0, 1, 1, 3), (3, 5, 1, 0, 2), (4, 5, 1, 1, 3)])
        self.assertRaises(BadSquare, atlas.do, ("lay", "a", "a", 1, 0, 5))
        self.assertRaises(BadSquare, atlas.do, ("lay", "a", "a", 0, -1, 5))

    def test_just_where_it_lies_within(self):
        atlas = Atlas()
        atlas.begin("a", 5, 3, 4)
        atlas.begin("b", 5, 2, 3)
        for top in range(-2, 5):
            for left in range(-2, 5):
                if 0 <= top <= 1 and 0 <= left <= 1:
                    self.assertEqual(atlas.do(("lay", "a", "b", top, left, 0)), 0)
                else:
                    self.assertRaises(BadSquare, atlas.do, ("lay", "a", "b", top, left, 0))
        self.assertRaises(BadSquare, atlas.do, ("lay", "b", "a", 0, 0, 0))
        self.assertRaises(BadSquare, atlas.do, ("lay", "a", "b", FAR, -FAR, 0))

    def test_refusals_in_order(self):
        atlas = Atlas()
        atlas.begin("a", 5, 2, 2)
        atlas.begin("b", 7, 3, 3)
        atlas.begin("c", 5, 3, 3)
        self.assertRaises(NoChart, atlas.do, ("lay", "x", "b", -1, 0, 1000))
        self.assertRaises(NoChart, atlas.do, ("lay", "a", "x", -1, 0, 1000))
        self.assertRaises(BadDay, atlas.do, ("lay", "a", "b", -1, 0, 1000))
        self.assertRaises(BadDay, atlas.do, ("lay", "a", "b", -1, 0, -1))
        self.assertRaises(Unlike, atlas.do, ("lay", "a", "b", -1, 0, 999))
        self.assertRaises(BadSquare, atlas.do, ("lay", "a", "c", 0, 0, 0))

    def test_beyond_two_hundred_none_is_told(self):
        atlas = Atlas()
        told_chart(atlas, "patch", (5, blank(2, 2, 3)))
        atlas.begin("a", 5, 3, 3)
        for _ in range(197):
            atlas.tell("a", 2, 2, 1)
        kept = state(atlas)
        self.assertRaises(Full, atlas.do, ("lay", "a", "patch", 0, 0, 0))
        self.assertRaises(BadSquare, atlas.do, ("lay", "a", "patch", 2, 2, 0))
        self.assertRaises(BadDay, atlas.do, ("lay", "a", "patch", 0, 0, 1000))
        self.assertEqual(state(atlas), kept)
        atlas.do(("strike", "a", 5))
        self.assertEqual(atlas.do(("lay", "a", "patch", 0, 0, 0)), 4)
        self.assertEqual(len(atlas.log("a")), 200)
        self.assertEqual(len(atlas.deeds()), 5 + 1 + 197 + 2)
        self.assertRaises(Full, atlas.do, ("lay", "a", "patch", 0, 0, 0))
        atlas.begin("empty", 5, 1, 1)
        self.assertEqual(atlas.do(("lay", "a", "empty", 0, 0, 0)), 0)


class UndoAndRedo(unittest.TestCase):
    def test_nothing_left(self):
        atlas = Atlas()
        self.assertRaises(NothingLeft, atlas.undo)
        self.assertRaises(NothingLeft, atlas.redo)
        atlas.begin("a")
        self.assertRaises(NothingLeft, atlas.redo)
        self.assertEqual(atlas.undo(), ("begin", "a", 13, 9, 9))
        self.assertRaises(NothingLeft, atlas.undo)
        self.assertEqual(atlas.redo(), ("begin", "a", 13, 9, 9))
        self.assertRaises(NothingLeft, atlas.redo)

    def test_a_deed_behind_a_taking_back(self):
        atlas = Atlas()
        atlas.begin("a", 5, 2, 2)
        for one in range(4):
            atlas.tell("a", 0, 0, one)
        atlas.undo()
        atlas.undo()
        self.assertRaises(BadHour, atlas.tell, "a", 0, 0, 5)
        self.assertEqual(atlas.redo(), ("tell", "a", 0, 0, 2, 0))
        self.assertEqual(atlas.tell("a", 1, 1, 4), 4)
        self.assertRaises(NothingLeft, atlas.redo)
        self.assertEqual([deed[4] for deed in atlas.deeds()[1:]], [0, 1, 2, 4])
        self.assertEqual(atlas.undo(), ("tell", "a", 1, 1, 4, 0))
        self.assertEqual(atlas.redo(), ("tell", "a", 1, 1, 4, 0))

    def test_questions_leave_what_was_taken_back(self):
        atlas = Atlas()
        told_chart(atlas, "a", WHIRL)
        atlas.undo()
        for name in METHODS:
            if name in ASKED_BY_DAY or name in ("log", "days", "chart"):
                outcome(getattr(atlas, name), "a")
                outcome(getattr(atlas, name), "x")
        outcome(atlas.may_be, "a", 0, 0)
        atlas.names(), atlas.deeds(), atlas.twin(), len(atlas)
        self.assertEqual(atlas.redo(), ("tell", "a", 1, 1, 2, 0))


class Twins(unittest.TestCase):
    def test_they_go_apart(self):
        chance = random.Random(85)
        for _ in range(8):
            atlas = Atlas()
            for _ in range(50):
                outcome(atlas.do, some_deed(chance))
            for _ in range(4):
                outcome(atlas.undo)
            twin = atlas.twin()
            self.assertIs(type(twin), Atlas)
            self.assertEqual(state(twin), state(atlas))
            kept = state(atlas)
            for _ in range(25):
                outcome(getattr(twin, chance.choice(("undo", "redo"))))
                outcome(twin.do, some_deed(chance))
            self.assertEqual(state(atlas), kept)
            kept = state(twin)
            for _ in range(25):
                outcome(atlas.do, some_deed(chance))
                outcome(atlas.undo)
            self.assertEqual(state(twin), kept)

    def test_same_to_take_back_and_do_again(self):
        atlas = Atlas()
        told_chart(atlas, "a", WHIRL)
        atlas.undo()
        atlas.undo()
        twin = atlas.twin()
        self.assertEqual([twin.redo(), twin.redo()], [atlas.redo(), atlas.redo()])
        self.assertRaises(NothingLeft, twin.redo)
        for _ in range(5):
            self.assertEqual(twin.undo(), atlas.undo())
        self.assertRaises(NothingLeft, twin.undo)

    def test_two_atlases_by_turns(self):
        chance = random.Random(86)
        one, other = (Atlas(), PlainAtlas()), (Atlas(), PlainAtlas())
        for _ in range(150):
            for atlas, plain in (one, other):
                deed = some_deed(chance)
                self.assertEqual(outcome(atlas.do, deed), outcome(plain.do, deed))
                self.assertEqual(atlas.deeds(), plain.deeds())


class Questions(unittest.TestCase):
    def test_against_the_functions(self):
        chance = random.Random(87)
        for chart in [MIXED, CALM, WHIRL, DOUBLE, NESTED] + sample_charts()[::12]:
            atlas = Atlas()
            told_chart(atlas, "a", chart, 3)
            self.assertEqual([atlas.chart("a"), atlas.chart("a", 3)], [chart, chart])
            bare = (chart[0], blank(len(chart[1]), len(chart[1][0]), -2))
            self.assertEqual(atlas.chart("a", 2), bare)
            for name, function in ASKED_BY_DAY.items():
                self.assertEqual(outcome(getattr(atlas, name), "a"), outcome(function, chart))
                self.assertEqual(outcome(getattr(atlas, name), "a", 3), outcome(function, chart))
                self.assertEqual(outcome(getattr(atlas, name), "a", 2), outcome(function, bare))
            for _ in range(3):
                square = (some_number(chance, 3), some_number(chance, 3))
                self.assertEqual(outcome(atlas.may_be, "a", *square), outcome(may_be, chart, square))
                self.assertEqual(outcome(atlas.may_be, "a", *square, 2), outcome(may_be, bare, square))

    def test_refusals_of_the_functions(self):
        atlas = Atlas()
        told_chart(atlas, "a", NESTED)
        with self.assertRaises(Knotted) as caught:
            atlas.ages("a")
        self.assertEqual(caught.exception.many, 2)
        self.assertRaises(NoFill, atlas.fill, "a")
        self.assertRaises(BadSquare, atlas.may_be, "a", 1, 1)
        self.assertRaises(BadSquare, atlas.may_be, "a", 6, 0)

    def test_names_that_are_not_there_and_days_beyond(self):
        atlas = Atlas()
        told_chart(atlas, "a", WHIRL)
        for name in ["b", "aa"] + WRONG_NAMES:
            for method in ("log", "days", "chart", *ASKED_BY_DAY):
                self.assertRaises(NoChart, getattr(atlas, method), name)
            for method in ("chart", *ASKED_BY_DAY):
                self.assertRaises(NoChart, getattr(atlas, method), name, 1000)
            self.assertRaises(NoChart, atlas.may_be, name, FAR, FAR, -1)
        for day in (-FAR, -1, 1000, FAR):
            for method in ("chart", *ASKED_BY_DAY):
                self.assertRaises(BadDay, getattr(atlas, method), "a", day)
            self.assertRaises(BadDay, atlas.may_be, "a", 0, 0, day)
            self.assertRaises(BadDay, atlas.may_be, "a", FAR, FAR, day)
        self.assertRaises(BadSquare, atlas.may_be, "a", FAR, FAR, 999)

    def test_days(self):
        atlas = Atlas()
        atlas.begin("a", 5, 2, 2)
        self.assertEqual(atlas.days("a"), [])
        for day in (9, 0, 999, 9, 3, 0):
            atlas.tell("a", 0, 0, 1, day)
        self.assertEqual(atlas.days("a"), [0, 3, 9, 999])
        atlas.do(("strike", "a", 5))
        self.assertEqual(atlas.days("a"), [0, 9, 999])

    def test_log_is_a_twin(self):
        atlas = Atlas()
        told_chart(atlas, "a", CALM)
        log = atlas.log("a")
        self.assertIs(type(log), Log)
        self.assertEqual(log, atlas.log("a"))
        log.strike(1)
        log.add(0, 0, 0)
        self.assertNotEqual(log, atlas.log("a"))
        self.assertEqual(atlas.chart("a"), CALM)
        self.assertEqual(atlas.tell("a", 0, 0, 0), 13)

    def test_largest_charts_within_a_few_seconds(self):
        for chart in large_charts()[::4]:
            atlas = Atlas()
            told_chart(atlas, "a", chart)
            begun = time.perf_counter()
            for name in ASKED_BY_DAY:
                outcome(getattr(atlas, name), "a")
            outcome(atlas.may_be, "a", 4, 4)
            self.assertLess(time.perf_counter() - begun, 3)


class WhatIsTold(unittest.TestCase):
    def test_changed_lists_do_not_change_what_is_told_again(self):
        atlas = Atlas()
        told_chart(atlas, "a", WHIRL)
        told_chart(atlas, "b", CALM)
        for act in (atlas.deeds, atlas.names, lambda: atlas.days("a"), lambda: atlas.knots("a"),
                    lambda: atlas.bar("a"), lambda: atlas.ages("b"), lambda: atlas.may_be("b", 0, 0)):
            first = act()
            kept = [list(one) if type(one) is list else one for one in first]
            self.assertIs(type(first), list)
            self.assertNotEqual(first, [])
            for one in first:
                if type(one) is list:
                    one.clear()
            first.clear()
            self.assertEqual(act(), kept)
        self.assertEqual(len(atlas.deeds()), 1 + 4 + 1 + 12)

    def test_asked_again_is_told_alike(self):
        chance = random.Random(88)
        atlas = Atlas()
        for _ in range(120):
            outcome(atlas.do, some_deed(chance))
            self.assertEqual(state(atlas), state(atlas))
        for name in atlas.names():
            for method in ASKED_BY_DAY:
                self.assertEqual(outcome(getattr(atlas, method), name), outcome(getattr(atlas, method), name))
        self.assertLessEqual(set(atlas.names()), set(NAMES))


if __name__ == "__main__":
    unittest.main()
