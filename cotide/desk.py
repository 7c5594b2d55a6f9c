"""A desk: lines of words that do deeds and ask questions of an atlas."""

from cotide.atlas import Atlas
from cotide.errors import BadClock, BadDay, BadHour, BadSquare, BadText, Full, Knotted, NoChart, NoEntry, NothingLeft
from cotide.errors import Taken, Unlike
from cotide.pages import chart_text, deed_text, page, read_deed
from cotide.words import read_things

# Of each line that writes no deed the kinds of the things behind its first word.
LINES = {
    "undo": (),
    "redo": (),
    "names": (),
    "page": (),
    "log": ("name",),
    "chart": ("name", "number"),
    "knots": ("name", "number"),
    "whole": ("name", "number"),
    "ages": ("name", "number"),
    "weight": ("name", "number"),
    "bar": ("name", "number"),
    "may": ("name", "number", "number", "number"),
}


def in_rows(rows):
    """Rows in one line."""
    return ", ".join(rows) if len(rows) > 0 else "none"


def in_words(things):
    """Things in one row, a sign for None."""
    return " ".join(["-" if thing is None else str(thing) for thing in things])


def answer_undo(atlas, things):
    """The row of the deed that is taken back."""
    return deed_text(atlas.undo())


def answer_redo(atlas, things):
    """The row of the deed that is done again."""
    return deed_text(atlas.redo())


def answer_names(atlas, things):
    """The names of the charts."""
    return in_rows(atlas.names())


def answer_page(atlas, things):
    """The page, with its line feeds."""
    return page(atlas)


def answer_log(atlas, things):
    """The rows of a chart's entries."""
    return in_rows(atlas.log(things[0]).entry_texts())


def answer_chart(atlas, things):
    """The rows of signs of a day's chart."""
    return chart_text(atlas.chart(things[0], things[1])).replace("\n", "/")


def answer_knots(atlas, things):
    """The first corners and the counts of knotted eyes."""
    found = atlas.knots(things[0], things[1])
    return in_rows([in_words([row, column, count]) for (row, column), count in found])


def answer_whole(atlas, things):
    """All counts together."""
    return str(atlas.whole(things[0], things[1]))


def answer_ages(atlas, things):
    """The ages, row by row."""
    return in_rows([in_words(row) for row in atlas.ages(things[0], things[1])])


def answer_weight(atlas, things):
    """What the least breaks weigh."""
    return str(atlas.weight(things[0], things[1]))


def answer_bar(atlas, things):
    """Whether there is a bar."""
    return "free" if atlas.bar(things[0], things[1]) is None else "barred"


def answer_may(atlas, things):
    """The hours that a square may have."""
    name, row, column, day = things
    return in_rows([str(hour) for hour in atlas.may_be(name, row, column, day)])


ANSWERS = {
    "undo": answer_undo,
    "redo": answer_redo,
    "names": answer_names,
    "page": answer_page,
    "log": answer_log,
    "chart": answer_chart,
    "knots": answer_knots,
    "whole": answer_whole,
    "ages": answer_ages,
    "weight": answer_weight,
    "bar": answer_bar,
    "may": answer_may,
}


def answer_deed(atlas, line):
    """Do the deed that a line writes."""
    told = atlas.do(read_deed(line))
    return "done" if told is None else str(told)


def answer(atlas, line):
    """The answer to a line, where nothing is refused."""
    words = line.split(" ")
    if words[0] not in LINES:
        return answer_deed(atlas, line)
    things = read_things(LINES[words[0]], words[1:])
    if things is None:
        raise BadText(0)
    action = ANSWERS[words[0]]
    return action(atlas, things)


class Desk:
    """An atlas that is spoken to by lines."""

    def __init__(self):
        self.held = Atlas()

    def atlas(self):
        """A twin of the desk's atlas."""
        return self.held.twin()

    def say(self, line):
        """The answer to a line."""
        try:
            return answer(self.held, line)
        except BadDay:
            return "no day"
        except BadHour:
            return "no hour"
        except BadSquare:
            return "no square"
        except Full:
            return "full"
        except Taken:
            return "taken"
        except Unlike:
            return "unlike"
        except NoChart:
            return "no chart"
        except BadClock:
            return "no clock"
        except NothingLeft:
            return "nothing left"
        except Knotted as refusal:
            return f"knotted {refusal.many}"
        except NoEntry as missing:
            return f"no entry of {missing.many}"
        except BadText:
            return "no line"
