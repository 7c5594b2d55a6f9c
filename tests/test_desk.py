"""The desk: [1], [19] and cotide.desk."""

import inspect
import random
import time
import unittest

from books import refusals, some_deed, PlainAtlas
from cotide.atlas import Atlas
from cotide.desk import Desk
from cotide.errors import BadClock, BadDay, BadHour, BadSquare, Full, Knotted, NoChart, NoEntry, NothingLeft, Taken
from cotide.errors import TideError, Unlike
from cotide.pages import chart_text, deed_text, page, read_deed
from samples import CALM, DOUBLE, NESTED, WHIRL, large_charts

ANSWERS = {BadDay: "no day", BadHour: "no hour", BadSquare: "no square", Full: "full", Taken: "taken",
           Unlike: "unlike", NoChart: "no chart", BadClock: "no clock", NothingLeft: "nothing left"}
BY_DAY = ("chart", "knots", "whole", "ages", "weight", "bar")
QUESTIONS = ("log a", "may a 0 0 0", "names", "page") + tuple(f"{word} a 0" for word in BY_DAY)
# Words that are no numbers and words that are no names.
NO_NUMBERS = ("", "00", "01", "+1", "-1", "1.0", "1000000", "x", "a", "land", "1\n", "#")
NO_NAMES = ("", "A", "abcdefghi", "a1", "0", "a-b", "a\n", "Aa")


def commas(some):
    return ", ".join(str(one) for one in some) or "none"


def asked(atlas, line):
    """The answer that a line must have, from an atlas kept beside the desk, for a line that is well written."""
    word, *rest = line.split(" ")
    if word in ("undo", "redo"):
        return deed_text(getattr(atlas, word)())
    if word in ("names", "page"):
        return commas(atlas.names()) if word == "names" else page(atlas)
    if word not in BY_DAY + ("log", "may"):
        told = atlas.do(read_deed(line))
        return "done" if told is None else str(told)
    name, *numbers = rest
    numbers = [int(number) for number in numbers]
    if word == "log":
        return commas(row for row in str(atlas.log(name)).split("\n") if row)
    if word == "may":
        return commas(atlas.may_be(name, *numbers))
    told = getattr(atlas, word)(name, *numbers)
    if word == "chart":
        return "/".join(chart_text(told).split("\n"))
    if word == "knots":
        return commas(f"{corner[0]} {corner[1]} {count}" for corner, count in told)
    if word == "ages":
        return commas(" ".join("-" if one is None else str(one) for one in row) for row in told)
    return ("free" if told is None else "barred") if word == "bar" else str(told)


def wanted(atlas, line):
    try:
        return asked(atlas, line)
    except NoEntry as error:
        return f"no entry of {error.many}"
    except Knotted as error:
        return f"knotted {error.many}"
    except TideError as error:
        return ANSWERS[type(error)]


def said(desk, lines):
    return [desk.say(line) for line in lines]


def lines_for(name, chart, day=0):
    """The lines that begin a chart and tell of all its squares."""
    clock, rows = chart
    found = [f"begin {name} {clock} {len(rows)} {len(rows[0])}"]
    for row, some in enumerate(rows):
        for column, one in enumerate(some):
            if one != -2:
                found.append(f"tell {name} {row} {column} {'land' if one == -1 else one} {day}")
    return found


def some_line(chance):
    """A line that is well written."""
    while True:
        word = chance.choice(("deed",) * 8 + ("undo", "redo", "names", "page", "log", "may") + BY_DAY)
        if word in ("undo", "redo", "names", "page"):
            return word
        name = chance.choice(("a", "b", "abcdefgh", "x"))
        day = chance.choice((0, 1, 2, 5, 999, 1000, 123456))
        if word == "log":
            return f"log {name}"
        if word == "may":
            return f"may {name} {chance.choice((0, 1, 2, 9))} {chance.choice((0, 1, 2, 3))} {day}"
        if word in BY_DAY:
            return f"{word} {name} {day}"
        deed = some_deed(chance)
        # Deeds that cannot be written are no lines; these are tried on their own.
        if deed and refusals({}, deed)[:1] in ([], [NoChart], [BadClock], [BadSquare]) and writable(deed):
            return deed_text(deed)


def writable(deed):
    text = deed_text(deed)
    try:
        return read_deed(text) == deed
    except TideError:
        return False


class Interface(unittest.TestCase):
    def test_names_and_arguments(self):
        self.assertEqual(str(inspect.signature(Desk)), "()")
        self.assertEqual(str(inspect.signature(Desk.__dict__["say"])), "(self, line)")
        self.assertEqual(str(inspect.signature(Desk.__dict__["atlas"])), "(self)")
        self.assertEqual(Desk.__module__, "cotide.desk")

    def test_by_names(self):
        self.assertEqual(Desk().say(line="names"), "none")


class Lines(unittest.TestCase):
    def test_every_kind_once(self):
        desk = Desk()
        for line, answer in (
                ("names", "none"), ("page", "atlas"), ("undo", "nothing left"), ("redo", "nothing left"),
                ("begin a 3 2 2", "done"), ("log a", "none"), ("chart a 0", "../.."), ("knots a 0", "none"),
                ("whole a 0", "0"), ("ages a 0", "- -, - -"), ("weight a 0", "0"), ("bar a 0", "free"),
                ("may a 0 0 0", "0, 1, 2"), ("tell a 0 0 0 1", "1"), ("tell a 0 1 1 1", "2"), ("tell a 1 1 2 1", "3"),
                ("may a 1 0 1", "1"), ("may a 0 0 1", "0"), ("ages a 1", "0 1, - 2"), ("tell a 1 0 0 2", "4"),
                ("log a", "1 0 0 0, 1 0 1 1, 1 1 1 2, 2 1 0 0"), ("chart a 1", "01/.2"), ("chart a 2", "01/02"),
                ("knots a 2", "0 0 1"), ("whole a 2", "1"), ("ages a 2", "knotted 1"), ("weight a 2", "1"),
                ("bar a 2", "barred"), ("may a 0 0 2", "none"), ("right a 1 sea", "done"), ("right a 2 land", "done"),
                ("log a", "1 0 0 sea, 1 0 1 land, 1 1 1 2, 2 1 0 0"), ("chart a 999", ".#/02"),
                ("may a 0 1 999", "no square"), ("strike a 1", "done"), ("strike a 1", "no entry of 3"),
                ("right a 9 0", "no entry of 3"), ("begin bay 3 3 2", "done"), ("names", "a, bay"),
                ("lay bay a 1 0 2", "3"), ("lay bay a 0 0 0", "0"), ("lay bay a 2 0 0", "no square"),
                ("chart bay 2", "../.#/02"), ("undo", "lay bay a 0 0 0"), ("undo", "lay bay a 1 0 2"),
                ("redo", "lay bay a 1 0 2"), ("drop a", "done"), ("undo", "drop a"), ("redo", "drop a"),
                ("redo", "nothing left"), ("names", "bay"), ("chart a 0", "no chart"), ("tell a 0 0 0 0", "no chart")):
            self.assertEqual(desk.say(line), answer, line)
        self.assertEqual(desk.say("page").split("\n")[:2], ["atlas", "begin a 3 2 2"])

    def test_refusals(self):
        desk = Desk()
        said(desk, ["begin a 5 2 2", "begin b 7 2 2", "begin c 5 3 3", "tell a 0 0 1 0"])
        kept = desk.say("page")
        for line, answer in (
                ("begin a 5 1 1", "taken"), ("begin x 4 1 1", "no clock"), ("begin x 5 0 1", "no square"),
                ("begin x 5 1 10", "no square"), ("begin a 4 0 0", "taken"), ("begin x 4 0 0", "no clock"),
                ("tell x 9 9 99 9999", "no chart"), ("tell a 2 0 99 9999", "no square"),
                ("tell a 0 0 5 1000", "no hour"), ("tell a 0 0 4 1000", "no day"), ("right x 9 99", "no chart"),
                ("right a 9 99", "no entry of 1"), ("right a 1 5", "no hour"), ("strike x 1", "no chart"),
                ("strike a 0", "no entry of 1"), ("strike b 1", "no entry of 0"), ("drop x", "no chart"),
                ("lay x a 9 9 1000", "no chart"), ("lay a x 9 9 1000", "no chart"), ("lay a b 9 9 1000", "no day"),
                ("lay a b 9 9 0", "unlike"), ("lay a c 0 0 0", "no square"), ("log x", "no chart"),
                ("may x 9 9 1000", "no chart"), ("may a 9 9 1000", "no day"), ("may a 9 9 999", "no square"),
                ("may a 0 2 0", "no square")):
            self.assertEqual(desk.say(line), answer, line)
        for word in BY_DAY:
            self.assertEqual(desk.say(f"{word} x 1000"), "no chart")
            self.assertEqual(desk.say(f"{word} a 1000"), "no day")
            self.assertEqual(desk.say(f"{word} a 999999"), "no day")
        self.assertEqual(desk.say("page"), kept)
        self.assertEqual(desk.say("redo"), "nothing left")

    def test_full(self):
        desk = Desk()
        for name in "abcdefgh":
            self.assertEqual(desk.say(f"begin {name} 3 1 1"), "done")
        self.assertEqual(desk.say("begin i 3 1 1"), "full")
        for number in range(1, 201):
            self.assertEqual(desk.say("tell a 0 0 1 0"), str(number))
        self.assertEqual(said(desk, ["tell a 0 0 1 0", "lay a a 0 0 0", "lay a b 0 0 0"]), ["full", "full", "0"])

    def test_no_line(self):
        desk = Desk()
        said(desk, lines_for("a", WHIRL))
        good = QUESTIONS + ("undo", "redo", "begin b 3 1 1", "tell a 0 0 0 0", "right a 1 0", "strike a 1", "drop a",
                            "lay a a 0 0 0")
        kept = desk.say("page")
        for line in good:
            words = line.split(" ")
            wrong = [" " + line, line + " ", line + "\n", "\n" + line, line.upper(), line.title(), line + " 0",
                     line + " a", " ".join(words[:-1]), words[0] + "x" + line[len(words[0]):],
                     line.replace(" ", "\t"), line + " " + line]
            wrong += [line.replace(" ", "  ", 1)] if len(words) > 1 else []
            for other in wrong:
                if other not in good and other != line:
                    self.assertEqual(desk.say(other), "no line", repr(other))
            for at, word in enumerate(words[1:], start=1):
                for other in NO_NUMBERS if word.isdigit() else NO_NAMES:
                    text = " ".join(words[:at] + [other] + words[at + 1:])
                    if word.isdigit() and other == "land" and (words[0], at) in (("tell", 4), ("right", 3)):
                        continue
                    self.assertEqual(desk.say(text), "no line", repr(text))
        for line in ("", " ", "  ", "\n", "x", "help", "atlas", "fill a 0", "days a", "deeds", "twin", "do drop a",
                     "may_be a 0 0 0", "chart a", "chart 0 a", "may a 0 0", "log", "log a 0", "names a", "page a",
                     "undo 1", "free", "none", "no line", "done"):
            self.assertEqual(desk.say(line), "no line", repr(line))
        self.assertEqual(desk.say("page"), kept)

    def test_no_line_whatever_charts_there_are(self):
        for desk in (Desk(), Desk()):
            for line in ("log A", "log abcdefghi", "chart A 0", "chart a x", "chart A 1000", "may a1 0 0 0",
                         "may a x 0 0", "may a 0 -1 0", "may a 0 0 00", "ages a 01", "bar a 1000000", "weight a -1"):
                self.assertEqual(desk.say(line), "no line", line)
            self.assertEqual(desk.say("chart a 0"), "no chart")
            self.assertEqual(desk.say("begin a 3 1 1"), "done")
            for line in ("chart a x", "may a 0 -1 0", "ages a 01", "bar a 1000000"):
                self.assertEqual(desk.say(line), "no line", line)

    def test_numbers_below_nought_and_beyond_the_clock_in_answers(self):
        desk = Desk()
        said(desk, lines_for("back", (3, ((1, 0), (2, 0)))) + lines_for("fall", (5, ((1, 4, 2, 0),))))
        self.assertEqual(said(desk, ["knots back 0", "whole back 0", "weight back 0", "ages fall 0"]),
                         ["0 0 -1", "-1", "1", "1 -1 -3 -5"])
        said(desk, lines_for("nest", NESTED) + lines_for("twice", DOUBLE) + lines_for("calm", CALM))
        self.assertEqual(said(desk, ["knots nest 0", "whole nest 0", "weight nest 0", "ages nest 0", "bar nest 0"]),
                         ["0 0 4, 2 2 1", "5", "6", "knotted 2", "barred"])
        self.assertEqual(said(desk, ["knots twice 0", "ages calm 0", "bar calm 0", "chart calm 0"]),
                         ["0 0 2", "0 2 4 6, 2 - 6 8, 4 6 8 10", "free", "0241/2#13/4130"])
        self.assertEqual(desk.say("names"), "back, calm, fall, nest, twice")


class AgainstAnAtlas(unittest.TestCase):
    def test_drawn_lines(self):
        chance = random.Random(101)
        seen = set()
        for _ in range(12):
            desk, atlas = Desk(), Atlas()
            for _ in range(200):
                line = some_line(chance)
                answer = wanted(atlas, line)
                self.assertEqual(desk.say(line), answer, line)
                seen.add((line.split(" ")[0], answer.split(" ")[0]))
            self.assertEqual(desk.say("page"), page(atlas))
        self.assertGreater(len(seen), 45)
        self.assertEqual({word for word, _ in seen}, {"begin", "tell", "right", "strike", "drop", "lay", "undo", "redo",
                                                      "names", "page", "log", "may", *BY_DAY})

    def test_two_desks_by_turns(self):
        chance = random.Random(102)
        pairs = [(Desk(), Atlas()), (Desk(), Atlas())]
        for _ in range(300):
            for desk, atlas in pairs:
                line = some_line(chance)
                self.assertEqual(desk.say(line), wanted(atlas, line), line)

    def test_questions_change_nothing(self):
        chance = random.Random(103)
        desk, plain = Desk(), PlainAtlas()
        for _ in range(80):
            deed = some_deed(chance)
            if not refusals(plain.books, deed):
                plain.do(deed)
                desk.say(deed_text(deed))
            kept = desk.say("page")
            first = said(desk, QUESTIONS)
            self.assertEqual(said(desk, QUESTIONS), first)
            self.assertEqual(desk.say("page"), kept)


class TheAtlas(unittest.TestCase):
    def test_is_a_twin(self):
        desk = Desk()
        said(desk, lines_for("a", WHIRL) + ["undo"])
        atlas = desk.atlas()
        self.assertIs(type(atlas), Atlas)
        self.assertEqual(page(atlas), desk.say("page"))
        self.assertEqual(atlas.redo(), ("tell", "a", 1, 1, 2, 0))
        atlas.do(("drop", "a"))
        self.assertEqual(desk.say("names"), "a")
        self.assertEqual(desk.say("chart a 0"), "01/0.")
        self.assertEqual(desk.say("redo"), "tell a 1 1 2 0")
        self.assertEqual(desk.say("undo"), "tell a 1 1 2 0")
        later = desk.atlas()
        desk.say("drop a")
        self.assertEqual(later.names(), ["a"])
        self.assertEqual(later.redo(), ("tell", "a", 1, 1, 2, 0))
        self.assertEqual(desk.atlas().names(), [])
        self.assertIsNot(desk.atlas(), desk.atlas())

    def test_of_a_new_desk(self):
        self.assertEqual([Desk().atlas().deeds(), len(Desk().atlas())], [[], 0])


class Largest(unittest.TestCase):
    def test_questions_of_nine_by_nine_within_a_few_seconds(self):
        for chart in large_charts()[::6]:
            desk, atlas = Desk(), Atlas()
            for line in lines_for("a", chart):
                self.assertEqual(desk.say(line), wanted(atlas, line))
            for line in [f"{word} a 999" for word in BY_DAY] + ["log a", "page", "may a 4 4 0", "may a 8 0 0"]:
                begun = time.perf_counter()
                answer = desk.say(line)
                self.assertLess(time.perf_counter() - begun, 3)
                self.assertEqual(answer, wanted(atlas, line))
                self.assertIs(type(answer), str)


if __name__ == "__main__":
    unittest.main()
