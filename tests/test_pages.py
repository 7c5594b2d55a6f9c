"""Texts: [1], [18] and cotide.pages."""

import inspect
import random
import unittest

from books import PlainAtlas, refusals, some_deed
from cotide import pages as module
from cotide.atlas import Atlas
from cotide.errors import BadChart, BadClock, BadText, NoEntry, TideError
from cotide.pages import chart_text, deed_text, page, read_chart, read_deed, read_page
from samples import CALM, CLOCKS, FAR, MIXED, ONE, WHIRL, WRONG_CHARTS, blank, large_charts, sample_charts

CHARTS = sample_charts() + large_charts()
# Words that write no number; with a 0 too many, a sign, a blank, too many figures, or other figures.
NO_NUMBERS = ["", "00", "01", "007", "+1", "-1", "-0", "1.0", "1e1", "0x1", "1_0", "1000000", "0000001", "x", "one",
              "1,", "1\n", "\t1", "a1", "1a", "~"]
NUMBERS = ["0", "1", "9", "10", "13", "99", "1000", "99999", "100000", "999999"]
NO_NAMES = ["", "A", "abcdefghi", "a1", "a-b", "Aa", "a.", "1", "a\n", "`", "{"]
DEEDS = [
    (("begin", "a", 13, 9, 9), "begin a 13 9 9"), (("begin", "abcdefgh", 3, 1, 9), "begin abcdefgh 3 1 9"),
    (("tell", "a", 0, 8, 12, 999), "tell a 0 8 12 999"), (("tell", "a", 1, 2, -1, 0), "tell a 1 2 land 0"),
    (("tell", "land", 1, 2, -2, 0), "tell land 1 2 sea 0"), (("right", "a", 200, 0), "right a 200 0"),
    (("right", "sea", 1, -1), "right sea 1 land"), (("right", "a", 7, -2), "right a 7 sea"),
    (("strike", "zz", 17), "strike zz 17"), (("drop", "drop"), "drop drop"), (("lay", "a", "b", 0, 8, 5), "lay a b 0 8 5"),
    (("lay", "lay", "lay", 10, 11, 999999), "lay lay lay 10 11 999999"),
    (("begin", "a", 4, 0, 10), "begin a 4 0 10"), (("tell", "a", 99, 9, 15, 1000), "tell a 99 9 15 1000"),
    (("strike", "a", 0), "strike a 0"),
]


def row_of(act, *arguments):
    """The row that a refused text tells, None where it is read."""
    try:
        act(*arguments)
    except BadText as error:
        return error.row
    return None


def sign_rows(chart):
    return ["".join("0123456789abcde.#"[one] for one in row) for row in chart[1]]


def wrong_row(clock, text):
    """The first row of a chart's text that is wrong, looked for row by row."""
    good = "0123456789abcde"[:clock] + ".#"
    rows = text.split("\n")
    for at, row in enumerate(rows):
        if at > 8 or not 0 < len(row) < 10 or len(row) != len(rows[0]) or set(row) - set(good):
            return at
    return None


def atlas_drawn(chance, many):
    """An atlas to which good deeds were done, and some were taken back."""
    atlas, plain = Atlas(), PlainAtlas()
    while len(atlas.deeds()) < many:
        deed = some_deed(chance)
        if not refusals(plain.books, deed):
            atlas.do(deed)
            plain.do(deed)
    for _ in range(chance.randint(0, 3)):
        atlas.undo()
    return atlas


def shape(atlas):
    return (atlas.names(), atlas.deeds(), [(atlas.log(name).entries(), atlas.chart(name)) for name in atlas.names()])


class Interface(unittest.TestCase):
    def test_names_and_arguments(self):
        for name, written in (("chart_text", "(chart)"), ("read_chart", "(clock, text)"), ("deed_text", "(deed)"),
                              ("read_deed", "(text)"), ("page", "(atlas)"), ("read_page", "(text)")):
            self.assertEqual(str(inspect.signature(getattr(module, name))), written)
            self.assertEqual(getattr(module, name).__module__, "cotide.pages")

    def test_by_names(self):
        self.assertEqual(chart_text(chart=WHIRL), "01\n02")
        self.assertEqual(read_chart(text="01\n02", clock=3), WHIRL)
        self.assertEqual(deed_text(deed=("drop", "a")), "drop a")
        self.assertEqual(read_deed(text="drop a"), ("drop", "a"))
        self.assertEqual(page(atlas=Atlas()), "atlas")
        self.assertEqual(read_page(text="atlas\nbegin a 3 1 1").names(), ["a"])


class ChartTexts(unittest.TestCase):
    def test_some(self):
        self.assertEqual(chart_text(MIXED), "01#c\n.2.b\n5#9#")
        self.assertEqual(chart_text(ONE), "0")
        self.assertEqual(chart_text((15, (tuple(range(9)), tuple(range(6, 15))))), "012345678\n6789abcde")
        self.assertEqual(chart_text((3, ((-1,), (-2,)))), "#\n.")

    def test_written_and_read_back(self):
        for chart in CHARTS:
            text = chart_text(chart)
            self.assertEqual(text.split("\n"), sign_rows(chart))
            found = read_chart(chart[0], text)
            self.assertEqual(found, chart)
            self.assertEqual([type(found), type(found[1]), {type(row) for row in found[1]}], [tuple, tuple, {tuple}])

    def test_all_clocks_and_sizes(self):
        for clock in CLOCKS:
            for high in range(1, 10):
                for wide in range(1, 10):
                    chart = (clock, blank(high, wide, (high + wide) % clock))
                    self.assertEqual(read_chart(clock, chart_text(chart)), chart)

    def test_wrong_charts(self):
        for chart in WRONG_CHARTS:
            self.assertRaises(BadChart, chart_text, chart)

    def test_wrong_clock_goes_first(self):
        for clock in (-FAR, -3, 0, 1, 2, 4, 14, 16, 17, FAR):
            for text in ("", "0", "0\n\n", "x", "0" * 10):
                self.assertRaises(BadClock, read_chart, clock, text)

    def test_hours_that_the_clock_has_not(self):
        for clock in CLOCKS:
            for hour, sign in enumerate("0123456789abcdefgxyz"):
                text = f"0#\n.{sign}\n00"
                if hour < clock:
                    self.assertEqual(read_chart(clock, text), (clock, ((0, -1), (-2, hour), (0, 0))))
                else:
                    self.assertEqual(row_of(read_chart, clock, text), 1)

    def test_all_signs(self):
        for code in range(32, 127):
            sign = chr(code)
            self.assertEqual(row_of(read_chart, 15, f"0\n{sign}"), None if sign in "0123456789abcde#." else 1, sign)

    def test_lengths(self):
        for text, row in (("", 0), ("\n", 0), ("\n0", 0), ("0\n", 1), ("0\n\n0", 1), ("00\n0", 1), ("0\n00", 1),
                          ("00\n00\n0", 2), ("0" * 10, 0), ("0" * 11 + "\n" + "0" * 11, 0), ("0" * 9, None),
                          ("0" * 9 + "\n" + "0" * 10, 1), ("\n".join("0" * 9), None), ("\n".join("0" * 10), 9),
                          ("\n".join("0" * 12), 9), ("\n".join("0" * 8) + "\n", 8), ("\n".join("0" * 9) + "\n", 9),
                          ("\n".join("0" * 9) + "\nx", 9), ("0\nx\n00", 1), ("0\n00\nx", 1), ("x\n", 0), (" 0", 0),
                          ("0 ", 0), ("0\r\n0", 0), ("0/0", 0), ("A", 0), ("-1", 0), ("f", 0)):
            self.assertEqual(row_of(read_chart, 15, text), row, repr(text))

    def test_spoilt_texts(self):
        chance = random.Random(91)
        spoilt = 0
        for chart in CHARTS:
            text = chart_text(chart)
            for _ in range(12):
                at = chance.randrange(len(text) + 1)
                sign = chance.choice("0123456789abcdef.#\n /-xA~")
                for other in (text[:at] + sign + text[at:], text[:at] + text[at + 1:], text[:at] + sign + text[at + 1:]):
                    wanted = wrong_row(chart[0], other)
                    self.assertEqual(row_of(read_chart, chart[0], other), wanted, (chart[0], other))
                    spoilt += wanted is not None
        self.assertGreater(spoilt, 3000)


class DeedTexts(unittest.TestCase):
    def test_written_and_read(self):
        for deed, text in DEEDS:
            self.assertEqual(deed_text(deed), text)
            self.assertEqual(read_deed(text), deed)
            self.assertIs(type(read_deed(text)), tuple)

    def test_numbers(self):
        for number in NUMBERS:
            self.assertEqual(read_deed(f"begin a {number} {number} {number}"), ("begin", "a", *[int(number)] * 3))
            self.assertEqual(read_deed(f"tell a 0 0 {number} 0"), ("tell", "a", 0, 0, int(number), 0))
        for text in [text for _, text in DEEDS]:
            words = text.split(" ")
            for at, word in enumerate(words):
                if at and word.isdigit():
                    for wrong in NO_NUMBERS:
                        other = " ".join(words[:at] + [wrong] + words[at + 1:])
                        self.assertEqual(row_of(read_deed, other), 0, other)

    def test_what_stands_in_its_place_alone(self):
        for text in ("begin a land 3 3", "begin a 3 sea 3", "tell a land 0 0 0", "tell a 0 sea 0 0", "tell a 0 0 0 land",
                     "right a land 0", "strike a sea", "lay a b land 0 0", "lay a b 0 0 sea", "tell a 0 0 Land 0",
                     "tell a 0 0 SEA 0", "tell a 0 0 lands 0", "tell a 0 0 # 0", "tell a 0 0 . 0", "tell a 0 0 c 0",
                     "tell a 0 0 -1 0", "tell a 0 0 -2 0", "right a 1 untold"):
            self.assertEqual(row_of(read_deed, text), 0, text)

    def test_names(self):
        for text in [text for _, text in DEEDS]:
            words = text.split(" ")
            for at in (1, 2) if words[0] == "lay" else (1,):
                for wrong in NO_NAMES:
                    other = " ".join(words[:at] + [wrong] + words[at + 1:])
                    self.assertEqual(row_of(read_deed, other), 0, other)

    def test_words_and_blanks(self):
        for _, text in DEEDS:
            words = text.split(" ")
            others = [" " + text, text + " ", text.replace(" ", "  ", 1), text.replace(" ", "\n", 1), text + "\n",
                      "\n" + text, text.upper(), text.title(), text + " 0", text + " a", " ".join(words[:-1]),
                      words[0], words[0] + "s" + text[len(words[0]):], " ".join(words[1:]), text + "\n" + text]
            for other in others:
                self.assertEqual(row_of(read_deed, other), 0, repr(other))
        for text in ("", " ", "atlas", "undo", "names", "page", "log a", "chart a 0", "\n", "begin", "drop"):
            self.assertEqual(row_of(read_deed, text), 0, repr(text))


class Pages(unittest.TestCase):
    def test_some(self):
        atlas = Atlas()
        self.assertEqual(page(atlas), "atlas")
        atlas.begin("a", 5, 1, 2)
        atlas.tell("a", 0, 1, -1, 3)
        self.assertEqual(page(atlas), "atlas\nbegin a 5 1 2\ntell a 0 1 land 3")
        atlas.undo()
        self.assertEqual(page(atlas), "atlas\nbegin a 5 1 2")
        atlas.undo()
        self.assertEqual(page(atlas), "atlas")

    def test_page_changes_nothing(self):
        atlas = atlas_drawn(random.Random(92), 20)
        kept = shape(atlas)
        page(atlas)
        self.assertEqual(shape(atlas), kept)

    def test_written_and_read_to_an_atlas(self):
        chance = random.Random(93)
        for _ in range(15):
            atlas = atlas_drawn(chance, 40)
            found = read_page(page(atlas))
            self.assertIs(type(found), Atlas)
            self.assertEqual(shape(found), shape(atlas))
            self.assertEqual(page(found), page(atlas))
            self.assertRaises(TideError, found.redo)
            for deed in reversed(atlas.deeds()):
                self.assertEqual(found.undo(), deed)
            self.assertEqual([len(found), page(found)], [0, "atlas"])

    def test_empty_page(self):
        found = read_page("atlas")
        self.assertEqual([found.names(), found.deeds(), len(found)], [[], [], 0])
        self.assertRaises(TideError, found.undo)

    def test_first_row(self):
        for text in ("", "\n", "Atlas", "atlas ", " atlas", "atlass", "atla", "begin a 5 1 1", "\natlas",
                     "atlas begin a 5 1 1", "page", "ATLAS\nbegin a 5 1 1", "x\ny"):
            self.assertEqual(row_of(read_page, text), 0, repr(text))

    def test_spoilt_at_every_row(self):
        rows = page(atlas_drawn(random.Random(94), 25)).split("\n")
        self.assertIsNone(row_of(read_page, "\n".join(rows)))
        for at in range(1, len(rows)):
            for wrong in ("", " ", rows[at] + " ", " " + rows[at], rows[at] + " 1", rows[at].upper(), "x", "undo",
                          "atlas", "names", rows[at].replace(" ", "  ", 1), "begin A 5 1 1", "begin new 05 1 1"):
                self.assertEqual(row_of(read_page, "\n".join(rows[:at] + [wrong] + rows[at + 1:])), at, wrong)
                self.assertEqual(row_of(read_page, "\n".join(rows[:at] + [wrong] + rows[at:])), at, wrong)
        self.assertEqual(row_of(read_page, "\n".join(rows) + "\n"), len(rows))

    def test_refused_deeds_on_the_page(self):
        rows = ["atlas", "begin a 5 2 2", "begin b 7 2 2", "begin c 5 3 3", "tell a 0 0 1 5"]
        for wrong in ("begin a 5 1 1", "begin x 4 1 1", "begin x 5 0 1", "begin x 5 1 10", "tell x 0 0 0 0",
                      "tell a 2 0 0 0", "tell a 0 2 0 0", "tell a 0 0 5 0", "tell a 0 0 0 1000", "right x 1 0",
                      "right a 2 0", "right a 1 5", "strike x 1", "strike a 0", "strike a 2", "drop x",
                      "lay x a 0 0 0", "lay a x 0 0 0", "lay a a 0 0 1000", "lay a b 0 0 0", "lay a c 0 0 0",
                      "lay c a 2 0 0"):
            for more in ([], ["tell a 0 0 1 5"], ["x"]):
                self.assertEqual(row_of(read_page, "\n".join(rows + [wrong] + more)), len(rows), wrong)

    def test_bounds_on_the_page(self):
        begun = ["atlas"] + [f"begin {name} 3 1 1" for name in "abcdefgh"]
        self.assertIsNone(row_of(read_page, "\n".join(begun)))
        self.assertEqual(row_of(read_page, "\n".join(begun + ["begin i 3 1 1"])), 9)
        told = ["atlas", "begin a 3 1 1"] + ["tell a 0 0 1 0"] * 200
        self.assertIsNone(row_of(read_page, "\n".join(told)))
        self.assertEqual(row_of(read_page, "\n".join(told + ["tell a 0 0 1 0"])), 202)
        self.assertEqual(row_of(read_page, "\n".join(told + ["lay a a 0 0 0"])), 202)

    def test_no_other_error_comes_out(self):
        chance = random.Random(95)
        text = page(atlas_drawn(chance, 12))
        for _ in range(1500):
            at, to = sorted((chance.randrange(len(text)), chance.randrange(len(text))))
            other = text[:at] + chance.choice(("", " ", "\n", "0", "a", "~", "-", text[at:to])) + text[to:]
            try:
                self.assertEqual(page(read_page(other)), other)
            except BadText as error:
                self.assertLess(error.row, len(other.split("\n")))
                self.assertGreaterEqual(error.row, 0)

    def test_refusals_are_not_those_of_the_deeds(self):
        for wrong in ("strike a 9", "right a 9 0"):
            try:
                read_page("atlas\nbegin a 5 1 1\n" + wrong)
            except (LookupError, ValueError) as error:
                self.assertNotIsInstance(error, NoEntry)
                self.assertEqual([type(error), error.row], [BadText, 2])

    def test_read_atlases_share_nothing(self):
        text = "atlas\nbegin a 5 1 1\ntell a 0 0 1 0"
        one, other = read_page(text), read_page(text)
        one.tell("a", 0, 0, 2)
        self.assertEqual([page(one) == text, page(other) == text], [False, True])
        self.assertEqual(other.tell("a", 0, 0, 3), 2)
        self.assertEqual(one.chart("a"), (5, ((2,),)))

    def test_long_page(self):
        rows = ["atlas"] + ["begin abcdefgh 13 9 9", "drop abcdefgh"] * 500
        found = read_page("\n".join(rows))
        self.assertEqual([len(found.deeds()), len(found)], [1000, 0])
        self.assertEqual(page(found).split("\n"), rows)


class AskedAgain(unittest.TestCase):
    def test_told_alike(self):
        for chart in (CALM, MIXED):
            self.assertEqual([chart_text(chart), read_chart(chart[0], chart_text(chart))], [chart_text(chart), chart])
        for _ in range(2):
            self.assertEqual(row_of(read_deed, "x"), 0)
            self.assertEqual(read_deed("drop a"), ("drop", "a"))


if __name__ == "__main__":
    unittest.main()
