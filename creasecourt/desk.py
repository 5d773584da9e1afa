"""The desk: sheets and foldings by their names, told row by row."""

from creasecourt.carried import carried, round_of
from creasecourt.corners import barred, gaps_at
from creasecourt.court import verdict
from creasecourt.crimps import how_many
from creasecourt.drawings import drawn
from creasecourt.errors import NoEdge, NoName, NoRow, Taken
from creasecourt.folding import Folding
from creasecourt.outlines import outline
from creasecourt.places import is_corner, is_edge
from creasecourt.sheets import is_inner_edge, is_within, marks_in, sheet_of
from creasecourt.wedges import is_good

FIGURES = "0123456789"
LETTERS = "abcdefghijklmnopqrstuvwxyz"

# The words behind the first one of a row: "new" is the name of what comes to stand, "sheet", "folding" and
# "either" are names of what stands.
FORMS = {
    "sheet": ("new", "number", "number"),
    "crease": ("sheet", "number", "number", "mark"),
    "gaps": ("sheet", "number", "number"),
    "count": ("sheet", "number", "number"),
    "show": ("either",),
    "verdict": ("sheet",),
    "marks": ("sheet",),
    "carried": ("sheet",),
    "begin": ("new", "number", "number"),
    "fold": ("folding", "number", "number", "side", "turn"),
    "back": ("folding",),
    "open": ("new", "folding"),
    "clear": ("new", "sheet"),
}
CHOICES = {"mark": ("h", "v", "o", "."), "side": ("ahead", "behind"), "turn": ("over", "under")}


def is_made_of(word, signs):
    return all([sign in signs for sign in word])


def is_name(word):
    return 1 <= len(word) <= 8 and is_made_of(word, LETTERS)


def is_number(word):
    if word == "0":
        return True
    figures = word[1:] if word.startswith("-") else word
    return 1 <= len(figures) <= 6 and is_made_of(figures, FIGURES) and not figures.startswith("0")


def fits(word, form):
    if form == "number":
        return is_number(word)
    if form in CHOICES:
        return word in CHOICES[form]
    return is_name(word)


def check_row(row):
    if not isinstance(row, str):
        raise NoRow("a row is a text")
    words = row.split(" ")
    forms = FORMS.get(words[0])
    if forms is None or len(words) != len(forms) + 1:
        raise NoRow("there is no such row")
    if not all([fits(word, form) for word, form in zip(words[1:], forms)]):
        raise NoRow("a word of the row is not as it ought to be")


def is_of_sort(thing, form):
    return form == "either" or isinstance(thing, Folding) == (form == "folding")


def check_names(things, words, forms):
    for word, form in zip(words, forms):
        if form in ("sheet", "folding", "either"):
            if word not in things or not is_of_sort(things[word], form):
                raise NoName("no such thing stands by this name")
    for word, form in zip(words, forms):
        if form == "new" and word in things:
            raise Taken("something stands by this name")


def place_in(words):
    return (int(words[1]), int(words[2]))


def place_told(place):
    x = place[0]
    y = place[1]
    return f"{x} {y}"


def told_marks(creases):
    return ", ".join([place_told(edge) + " " + mark for edge, mark in creases])


def say_sheet(things, words):
    things[words[0]] = sheet_of(int(words[1]), int(words[2]), [])
    return "ok"


def say_crease(things, words):
    sheet = things[words[0]]
    edge = place_in(words)
    if not is_inner_edge(sheet[0], sheet[1], edge):
        raise NoEdge(edge)
    creases = [crease for crease in sheet[2] if crease[0] != edge]
    if words[3] != ".":
        creases.append((edge, words[3]))
    things[words[0]] = sheet_of(sheet[0], sheet[1], creases)
    return "ok"


def gaps_asked(things, words):
    sheet = things[words[0]]
    corner = place_in(words)
    if not (is_corner(corner) and is_within(sheet[0], sheet[1], corner)):
        raise NoEdge(corner)
    return gaps_at(sheet, corner)


def say_gaps(things, words):
    gaps = gaps_asked(things, words)
    return " ".join([str(gap) for gap in gaps]) if gaps else "none"


def say_count(things, words):
    gaps = gaps_asked(things, words)
    if not is_good(gaps):
        return "0"
    return str(how_many(gaps)) if gaps else "1"


def say_show(things, words):
    thing = things[words[0]]
    return outline(thing.piles()) if isinstance(thing, Folding) else drawn(thing)


def short_verdict(told):
    return "barred " + place_told(told[1]) if told[0] == "barred" else told[0]


def say_verdict(things, words):
    return short_verdict(verdict(things[words[0]]))


def say_marks(things, words):
    told = verdict(things[words[0]])
    return told_marks(told[1]) if told[0] == "folds" else short_verdict(told)


def say_carried(things, words):
    sheet = things[words[0]]
    corner = barred(sheet)
    if corner is not None:
        return "barred " + place_told(corner)
    return "round" if round_of(sheet) is not None else told_marks(carried(sheet))


def say_begin(things, words):
    things[words[0]] = Folding(int(words[1]), int(words[2]))
    return "ok"


def say_fold(things, words):
    edge = place_in(words)
    if not is_edge(edge):
        raise NoEdge(edge)
    things[words[0]].fold(edge, words[3] == "ahead", words[4] == "over")
    return "ok"


def say_back(things, words):
    things[words[0]].back()
    return "ok"


def say_open(things, words):
    things[words[0]] = things[words[1]].sheet()
    return "ok"


def say_clear(things, words):
    sheet = things[words[1]]
    things[words[0]] = sheet_of(sheet[0], sheet[1], [(edge, "o") for edge in marks_in(sheet)])
    return "ok"


ANSWERS = {
    "sheet": say_sheet,
    "crease": say_crease,
    "gaps": say_gaps,
    "count": say_count,
    "show": say_show,
    "verdict": say_verdict,
    "marks": say_marks,
    "carried": say_carried,
    "begin": say_begin,
    "fold": say_fold,
    "back": say_back,
    "open": say_open,
    "clear": say_clear,
}


class Desk:
    def __init__(self):
        self.things = {}

    def say(self, row):
        check_row(row)
        words = row.split(" ")
        check_names(self.things, words[1:], FORMS[words[0]])
        return ANSWERS[words[0]](self.things, words[1:])
