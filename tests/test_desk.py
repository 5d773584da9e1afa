"""Point 32 and the interface's stage 9, with 2 and 3: the desk."""

import unittest

import samples
from creasecourt.carried import carried
from creasecourt.corners import barred, gaps_at
from creasecourt.court import verdict
from creasecourt.crimps import how_many
from creasecourt.desk import Desk
from creasecourt.drawings import drawn, read_sheet
from creasecourt.errors import (
    CreaseError, NoEdge, NoFold, NoName, NoRow, NoSize, Taken, TooMany,
)
from creasecourt.faces import faces
from creasecourt.folding import Folding
from creasecourt.outlines import outline
from creasecourt.sheets import sheet_of


def desk_with(*rows):
    desk = Desk()
    for row in rows:
        assert desk.say(row) == "ok", row
    return desk


def put(desk, name, sheet):
    """Tells the desk a whole sheet."""
    desk.say(f"sheet {name} {sheet[0]} {sheet[1]}")
    for (x, y), mark in sheet[2]:
        desk.say(f"crease {name} {x} {y} {mark}")


def told_marks(creases):
    return ", ".join(f"{x} {y} {mark}" for (x, y), mark in creases)


class DeskTest(unittest.TestCase):
    def refused(self, kind, desk, row):
        with self.assertRaises(CreaseError) as taken:
            desk.say(row)
        self.assertIs(type(taken.exception), kind, row)
        return taken.exception


class Rows(DeskTest):
    def test_sheet_and_show(self):
        for wide in range(1, 7):
            for high in range(1, 7):
                desk = Desk()
                self.assertEqual(desk.say(f"sheet a {wide} {high}"), "ok")
                self.assertEqual(desk.say("show a"), drawn(sheet_of(wide, high, [])))

    def test_no_size(self):
        desk = Desk()
        for size in ("0 1", "1 0", "7 1", "1 7", "-1 1", "1 -1", "999999 1", "1 -999999"):
            self.refused(NoSize, desk, "sheet a " + size)
            self.refused(NoSize, desk, "begin a " + size)
            self.refused(NoName, desk, "show a")
        self.assertEqual(desk.say("sheet a 1 1"), "ok")

    def test_crease(self):
        desk = desk_with("sheet a 2 1")
        marks = {}
        for edge, mark in [((4, 2), "h"), ((1, 1), "v"), ((4, 2), "o"), ((7, 3), "h"), ((1, 1), "."), ((5, 1), "."),
                           ((4, 2), "v"), ((4, 2), "v"), ((7, 3), "."), ((7, 3), "o")]:
            self.assertEqual(desk.say(f"crease a {edge[0]} {edge[1]} {mark}"), "ok")
            marks[edge] = mark
            standing = {edge: mark for edge, mark in marks.items() if mark != "."}
            self.assertEqual(desk.say("show a"), drawn(samples.sheet(2, 1, standing)))

    def test_crease_at_each_place(self):
        desk = desk_with("sheet a 2 1")
        inner = samples.edges_by_hand(2, 1)
        for x in range(-2, 11):
            for y in range(-2, 7):
                for mark in "h.":
                    before = desk.say("show a")
                    if (x, y) in inner:
                        self.assertEqual(desk.say(f"crease a {x} {y} {mark}"), "ok")
                    else:
                        self.assertEqual(self.refused(NoEdge, desk, f"crease a {x} {y} {mark}").edge, (x, y))
                        self.assertEqual(desk.say("show a"), before)
        self.refused(NoEdge, desk, "crease a 999997 1 h")

    def test_gaps_and_count(self):
        chance = samples.Chance(32)
        for wide, high in [(1, 1), (2, 2), (3, 2)]:
            for bound in (1, 2, 4):
                marks = {
                    edge: chance.one_of("hvo") for edge in samples.edges_by_hand(wide, high)
                    if not chance.below(bound)
                }
                sheet = samples.sheet(wide, high, marks)
                desk = Desk()
                put(desk, "a", sheet)
                for x in range(-2, 4 * wide + 3):
                    for y in range(-2, 4 * high + 3):
                        if (x, y) not in samples.corners_by_hand(wide, high):
                            self.assertEqual(self.refused(NoEdge, desk, f"gaps a {x} {y}").edge, (x, y))
                            self.assertEqual(self.refused(NoEdge, desk, f"count a {x} {y}").edge, (x, y))
                            continue
                        gaps = gaps_at(sheet, (x, y))
                        told = " ".join(str(gap) for gap in gaps) or "none"
                        self.assertEqual(desk.say(f"gaps a {x} {y}"), told)
                        if samples.is_barred_by_hand(marks, (x, y)):
                            expected = "0"
                        else:
                            expected = str(how_many(gaps)) if gaps else "1"
                        self.assertEqual(desk.say(f"count a {x} {y}"), expected)

    def test_gaps_and_count_by_hand(self):
        desk = desk_with("sheet a 2 2")
        self.assertEqual(desk.say("gaps a 4 4"), "none")
        self.assertEqual(desk.say("count a 4 4"), "1")
        desk.say("crease a 6 4 h")
        self.assertEqual(desk.say("gaps a 4 4"), "8")
        self.assertEqual(desk.say("count a 4 4"), "0")
        desk.say("crease a 2 4 o")
        self.assertEqual(desk.say("gaps a 4 4"), "4 4")
        self.assertEqual(desk.say("count a 4 4"), "2")
        desk.say("crease a 4 6 v")
        self.assertEqual(desk.say("gaps a 4 4"), "2 2 4")
        self.assertEqual(desk.say("count a 4 4"), "0")
        desk.say("crease a 4 2 v")
        self.assertEqual(desk.say("gaps a 4 4"), "2 2 2 2")
        self.assertEqual(desk.say("count a 4 4"), "8")

    def test_verdict_marks_and_carried(self):
        chance = samples.Chance(33)
        kinds = {}
        trials = [samples.open_sheet(2, 2, [(1, 1)]), samples.sheet(5, 1, {(8, 2): "v", (12, 2): "v"})]
        for edges in samples.small_good_creases()[::23]:
            trials.append(samples.marked_at_chance(samples.open_sheet(2, 2, edges), chance, 3))
        for sheet in trials:
            desk = Desk()
            put(desk, "a", sheet)
            if barred(sheet) is not None:
                x, y = barred(sheet)
                self.assertEqual(desk.say("carried a"), f"barred {x} {y}")
            if len(faces(sheet)) > 9:
                self.refused(TooMany, desk, "verdict a")
                self.refused(TooMany, desk, "marks a")
                continue
            told = verdict(sheet)
            kinds[told[0]] = True
            short = "barred {} {}".format(*told[1]) if told[0] == "barred" else told[0]
            self.assertEqual(desk.say("verdict a"), short)
            self.assertEqual(desk.say("marks a"), told_marks(told[1]) if told[0] == "folds" else short)
            if told[0] == "round":
                self.assertEqual(desk.say("carried a"), "round")
            elif told[0] != "barred":
                self.assertEqual(desk.say("carried a"), told_marks(carried(sheet)))
            self.assertEqual(read_sheet(desk.say("show a")), sheet)
        self.assertEqual(set(kinds), {"barred", "round", "folds", "shut"})

    def test_verdicts_by_hand(self):
        desk = desk_with("sheet a 1 1")
        self.assertEqual(desk.say("verdict a"), "folds")
        self.assertEqual(desk.say("marks a"), "")
        self.assertEqual(desk.say("carried a"), "")
        desk.say("crease a 1 1 v")
        for row in ("verdict a", "marks a", "carried a"):
            self.assertEqual(desk.say(row), "barred 2 2")
        desk.say("crease a 3 3 o")
        self.assertEqual(desk.say("verdict a"), "folds")
        self.assertEqual(desk.say("marks a"), "1 1 v, 3 3 v")
        self.assertEqual(desk.say("carried a"), "1 1 v, 3 3 v")
        desk.say("crease a 3 3 h")
        for row in ("verdict a", "marks a", "carried a"):
            self.assertEqual(desk.say(row), "round")
        for row in ("crease a 3 1 o", "crease a 1 3 o", "crease a 3 3 o", "crease a 1 1 o"):
            desk.say(row)
        self.assertEqual(desk.say("carried a"), "1 1 o, 1 3 o, 3 1 o, 3 3 o")
        for row in ("crease a 3 1 h", "crease a 1 3 h", "crease a 3 3 h", "crease a 1 1 h"):
            desk.say(row)
        for row in ("verdict a", "marks a"):
            self.assertEqual(desk.say(row), "shut")
        self.assertEqual(desk.say("carried a"), "1 1 h, 1 3 h, 3 1 h, 3 3 h")

    def test_carried_of_more_than_nine_faces(self):
        desk = Desk()
        sheet = samples.all_creased(3, 3)
        put(desk, "a", sheet)
        self.assertEqual(desk.say("carried a"), told_marks(sheet[2]))
        self.refused(TooMany, desk, "verdict a")
        self.refused(TooMany, desk, "marks a")

    def test_folding(self):
        desk = desk_with("begin f 2 2")
        folding = Folding(2, 2)
        self.assertEqual(desk.say("show f"), outline(folding.piles()))
        for words, edge, ahead, over in (
            ("4 2 ahead over", (4, 2), True, True), ("2 4 behind under", (2, 4), False, False),
            ("5 3 ahead under", (5, 3), True, False), ("-1 9 behind over", (-1, 9), False, True),
        ):
            try:
                folding.fold(edge, ahead, over)
            except NoFold:
                self.refused(NoFold, desk, "fold f " + words)
            else:
                self.assertEqual(desk.say("fold f " + words), "ok")
            self.assertEqual(desk.say("show f"), outline(folding.piles()))
        self.assertEqual(desk.say("open s f"), "ok")
        self.assertEqual(desk.say("show s"), drawn(folding.sheet()))
        while folding.many():
            folding.back()
            self.assertEqual(desk.say("back f"), "ok")
            self.assertEqual(desk.say("show f"), outline(folding.piles()))
        self.refused(NoFold, desk, "back f")
        self.assertNotEqual(desk.say("show s"), drawn(sheet_of(2, 2, [])))

    def test_each_side_and_turn(self):
        for side in ("ahead", "behind"):
            for turn in ("over", "under"):
                desk = desk_with("begin f 3 1", f"fold f 4 2 {side} {turn}", "open s f")
                folding = Folding(3, 1)
                folding.fold((4, 2), side == "ahead", turn == "over")
                self.assertEqual(desk.say("show f"), outline(folding.piles()))
                self.assertEqual(desk.say("show s"), drawn(folding.sheet()))

    def test_no_edge_and_no_fold(self):
        desk = desk_with("begin f 2 2")
        shown = desk.say("show f")
        for x in range(-1, 10):
            for y in range(-1, 10):
                if samples.signs_of((x, y)) not in "LUFR":
                    self.assertEqual(self.refused(NoEdge, desk, f"fold f {x} {y} ahead over").edge, (x, y))
        for place in ("0 2", "8 2", "2 0", "2 8", "-1 1", "9 7", "999996 2", "-999996 2"):
            self.refused(NoFold, desk, f"fold f {place} ahead over")
            self.refused(NoFold, desk, f"fold f {place} behind under")
        self.refused(NoFold, desk, "back f")
        self.assertEqual(desk.say("show f"), shown)

    def test_folded_simply_is_told_as_folding(self):
        desk = desk_with("begin f 2 2", "fold f 4 2 ahead over", "fold f 3 1 ahead under", "open s f", "clear t s")
        self.assertEqual(desk.say("verdict s"), "folds")
        self.assertEqual(desk.say("marks s"), desk.say("carried s"))
        self.assertEqual(desk.say("verdict t"), "folds")

    def test_open_tells_the_sheet_as_it_stands(self):
        desk = desk_with("begin f 2 1", "open a f", "fold f 4 2 ahead over", "open b f", "back f", "open c f")
        self.assertEqual(desk.say("show a"), drawn(sheet_of(2, 1, [])))
        self.assertEqual(desk.say("show b"), drawn(sheet_of(2, 1, [((4, 2), "v")])))
        self.assertEqual(desk.say("show c"), drawn(sheet_of(2, 1, [])))
        desk.say("crease b 4 2 h")
        self.assertEqual(desk.say("show f"), outline(Folding(2, 1).piles()))

    def test_clear(self):
        desk = desk_with("sheet a 2 1", "crease a 4 2 h", "crease a 1 1 v", "crease a 7 3 o", "clear b a")
        self.assertEqual(desk.say("show b"), drawn(samples.open_sheet(2, 1, [(4, 2), (1, 1), (7, 3)])))
        before = desk.say("show a")
        desk.say("crease b 4 2 .")
        self.assertEqual(desk.say("show a"), before)
        self.assertIn("h", before)

    def test_names(self):
        desk = Desk()
        for name in ("a", "z", "abcdefgh", "sheet", "show", "open", "ahead", "h", "o", "zzzzzzzz"):
            self.assertEqual(desk.say(f"sheet {name} 1 1"), "ok")
            self.assertEqual(desk.say(f"show {name}"), drawn(sheet_of(1, 1, [])))
        self.assertEqual(desk.say("begin fold 1 1"), "ok")
        self.assertEqual(desk.say("fold fold 1 1 ahead over"), "ok")

    def test_desks_share_nothing(self):
        one = desk_with("sheet a 1 1")
        other = Desk()
        self.refused(NoName, other, "show a")
        self.assertEqual(other.say("begin a 1 1"), "ok")
        self.assertEqual(one.say("show a"), drawn(sheet_of(1, 1, [])))

    def test_three_hundred_rows(self):
        desk = desk_with("sheet a 6 6")
        edges = samples.edges_by_hand(6, 6)
        for number in range(299):
            x, y = edges[number % len(edges)]
            self.assertEqual(desk.say(f"crease a {x} {y} {'hvo'[number % 3]}"), "ok")
        expected = {edges[number % len(edges)]: "hvo"[number % 3] for number in range(299)}
        self.assertEqual(desk.say("show a"), drawn(samples.sheet(6, 6, expected)))


FULL = {
    "sheet": "sheet new 1 1", "crease": "crease s 1 1 h", "gaps": "gaps s 2 2", "count": "count s 2 2",
    "show": "show s", "verdict": "verdict s", "marks": "marks s", "carried": "carried s",
    "begin": "begin new 1 1", "fold": "fold f 4 2 ahead over", "back": "back f", "open": "open new f",
    "clear": "clear new s",
}


class Refusals(DeskTest):
    def standing(self):
        """A desk on which things stand, and what it shows of them."""
        desk = desk_with(
            "sheet s 2 1", "crease s 4 2 h", "begin f 2 1", "fold f 4 2 ahead over", "sheet t 1 1", "begin g 3 3",
        )
        return desk

    def shown(self, desk):
        return [desk.say("show " + name) for name in "sftg"]

    def unchanged(self, kind, row):
        desk = self.standing()
        before = self.shown(desk)
        error = self.refused(kind, desk, row)
        self.assertEqual(self.shown(desk), before)
        self.refused(NoName, desk, "show new")
        # Below the fold that stands there is still none.
        desk.say("back f")
        self.refused(NoFold, desk, "back f")
        return error

    def test_each_row_is_one(self):
        for row in FULL.values():
            desk = desk_with("sheet s 2 1", "begin f 2 1", "fold f 7 1 ahead over")
            self.assertIsInstance(desk.say(row), str)

    def test_a_word_too_many_or_too_few(self):
        for row in FULL.values():
            words = row.split(" ")
            for k in range(len(words)):
                self.unchanged(NoRow, " ".join(words[:k] + words[k + 1:]))
            for more in ("s", "1", "h", "over", "show", ""):
                self.unchanged(NoRow, row + " " + more)

    def test_blanks_and_line_feeds(self):
        for row in FULL.values():
            words = row.split(" ")
            for wrong in (" " + row, row + " ", row + "\n", "\n" + row, row.replace(" ", "\t"), row.upper(),
                          row.replace(" ", "\n", 1), row.replace(" ", "")):
                self.unchanged(NoRow, wrong)
            for k in range(1, len(words)):
                self.unchanged(NoRow, " ".join(words[:k]) + "  " + " ".join(words[k:]))

    def test_other_words(self):
        for row in ("", " ", "  ", "hello", "sheets s 1 1", "Show s", "shut s", "drop s", "fold", "round s", "show  s",
                    "None", "sheet", "folds s", "help", "~", "show\u00a0s", "x" * 4000, "show " * 800):
            self.unchanged(NoRow, row)

    def test_what_is_no_text(self):
        for thing in samples.STRANGE + [["show", "s"], ("show s",), b"show s", {"show": "s"}]:
            if not isinstance(thing, str):
                self.unchanged(NoRow, thing)

    def test_numbers_wrongly_written(self):
        wrong = ["01", "00", "-0", "+1", "1.0", "1.", "--1", "-", "1-", "-01", "1234567", "-1234567", "0000001", "one",
                 "0x1", "1_0", "1e1", "\u0661", "\u00b2", "a", "h", "1,", "1\n", "_1"]
        for number in wrong:
            for row in (f"sheet new {number} 1", f"sheet new 1 {number}", f"begin new {number} 1",
                        f"begin new 1 {number}", f"crease s {number} 1 h", f"crease s 1 {number} h",
                        f"gaps s {number} 2", f"gaps s 2 {number}", f"count s {number} 2", f"count s 2 {number}",
                        f"fold f {number} 2 ahead over", f"fold f 2 {number} ahead over"):
                self.unchanged(NoRow, row)

    def test_numbers_rightly_written(self):
        for number in ("0", "-1", "10", "999999", "-999999", "100000", "-100000", "7"):
            self.unchanged(NoSize, f"sheet new {number} 1")
            error = self.unchanged(NoEdge, f"gaps s {number} 0")
            self.assertEqual(error.edge, (int(number), 0))
            error = self.unchanged(NoEdge, f"crease s 0 {number} v")
            self.assertEqual(error.edge, (0, int(number)))

    def test_words_that_ought_to_be_names(self):
        for name in ("A", "aB", "a1", "1", "abcdefghi", "a-b", "a_b", "\u00e4", "", "a.", "-", "aa\n", "."):
            for row in (f"sheet {name} 1 1", f"show {name}", f"verdict {name}", f"open {name} f", f"open new {name}",
                        f"clear new {name}", f"clear {name} s", f"begin {name} 1 1", f"back {name}",
                        f"crease {name} 1 1 h", f"fold {name} 4 2 ahead over", f"gaps {name} 2 2"):
                self.unchanged(NoRow, row)

    def test_other_words_in_their_places(self):
        for mark in ("H", "x", "", "hh", "hv", "ov", "-", "|", "+", "1", ".."):
            self.unchanged(NoRow, f"crease s 1 1 {mark}")
        for side in ("Ahead", "ahea", "over", "", "true", "1", "aheadbehind"):
            self.unchanged(NoRow, f"fold f 1 1 {side} over")
        for turn in ("Over", "ove", "ahead", "", "false", "0", "overunder"):
            self.unchanged(NoRow, f"fold f 1 1 ahead {turn}")

    def test_names_that_do_not_stand(self):
        for row in ("crease new 1 1 h", "gaps new 2 2", "count new 2 2", "show new", "verdict new", "marks new",
                    "carried new", "fold new 4 2 ahead over", "back new", "open new newer", "clear new newer"):
            self.unchanged(NoName, row)

    def test_names_that_stand_for_the_other_sort(self):
        for row in ("crease f 1 1 h", "gaps f 2 2", "count f 2 2", "verdict f", "marks f", "carried f",
                    "fold s 4 2 ahead over", "back s", "open new s", "clear new f"):
            self.unchanged(NoName, row)

    def test_new_names_that_stand(self):
        for name in ("s", "f"):
            for row in (f"sheet {name} 1 1", f"begin {name} 1 1", f"open {name} g", f"clear {name} t",
                        f"open {name} f", f"clear {name} s"):
                self.unchanged(Taken, row)

    def test_two_refusals_due_at_once(self):
        self.unchanged(NoRow, "crease new 01 1 h")
        self.unchanged(NoRow, "sheet s 01 1")
        self.unchanged(NoRow, "open s X")
        self.unchanged(NoRow, "crease new 2 2 x")
        self.unchanged(NoName, "open s new")
        self.unchanged(NoName, "open f s")
        self.unchanged(NoName, "clear s f")
        self.unchanged(NoName, "clear f new")
        self.unchanged(NoName, "open new new")
        self.unchanged(NoName, "crease new 2 2 h")
        self.unchanged(NoName, "gaps f 1 1")
        self.unchanged(NoName, "fold s 2 2 ahead over")
        self.unchanged(Taken, "sheet s 7 7")
        self.unchanged(Taken, "begin f 0 0")
        self.unchanged(Taken, "sheet f 7 7")
        self.unchanged(NoEdge, "fold f 2 2 ahead over")


if __name__ == "__main__":
    unittest.main()
