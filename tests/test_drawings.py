"""Point 12, with 2: sheets drawn and read again."""

import unittest

import samples
from creasecourt.drawings import drawn, read_sheet
from creasecourt.errors import CreaseError, NoText
from creasecourt.sheets import sheet_of

SIZES = [(wide, high) for wide in range(1, 7) for high in range(1, 7)]


def drawn_by_hand(sheet):
    wide, high, creases = sheet
    rows = [[" "] * (4 * wide + 1) for unused in range(4 * high + 1)]
    for x, y in samples.all_places(wide, high):
        sign = samples.signs_of((x, y))
        if x % 4 == 0 and y % 4 == 0:
            rows[y][x] = "+"
        elif sign in "LUFR":
            rows[y][x] = "."
        if sign == "L" and y in (0, 4 * high):
            rows[y][x] = "-"
        if sign == "U" and x in (0, 4 * wide):
            rows[y][x] = "|"
    for (x, y), mark in creases:
        rows[y][x] = mark
    return "\n".join("".join(row) for row in rows)


def some_sheets():
    chance = samples.Chance(12)
    for wide, high in SIZES:
        edges = samples.edges_by_hand(wide, high)
        yield sheet_of(wide, high, [])
        for mark in "hvo":
            yield samples.all_creased(wide, high, mark)
        for unused in range(3):
            marks = {edge: chance.one_of("hvo") for edge in edges if chance.below(2)}
            yield samples.sheet(wide, high, marks)


class Point12(unittest.TestCase):
    def refused(self, thing):
        with self.assertRaises(CreaseError) as taken:
            read_sheet(thing)
        self.assertIs(type(taken.exception), NoText)

    def test_some_by_hand(self):
        self.assertEqual(drawn(sheet_of(1, 1, [])), "+ - +\n . . \n|   |\n . . \n+ - +")
        marked = sheet_of(2, 1, [((4, 2), "h"), ((1, 1), "o"), ((7, 3), "v")])
        self.assertEqual(
            drawn(marked),
            "+ - + - +\n o . . . \n|   h   |\n . . . v \n+ - + - +",
        )
        self.assertEqual(
            drawn(sheet_of(1, 2, [((2, 4), "v"), ((3, 5), "h")])),
            "+ - +\n . . \n|   |\n . . \n+ v +\n . h \n|   |\n . . \n+ - +",
        )

    def test_each_sheet_is_drawn_sign_by_sign(self):
        for sheet in some_sheets():
            self.assertEqual(drawn(sheet), drawn_by_hand(sheet))

    def test_each_drawing_is_read_to_its_sheet(self):
        for sheet in some_sheets():
            self.assertEqual(read_sheet(drawn_by_hand(sheet)), sheet)

    def test_each_edge_alone_with_each_mark(self):
        for edge in samples.edges_by_hand(2, 3):
            for mark in "hvo":
                sheet = sheet_of(2, 3, [(edge, mark)])
                self.assertEqual(read_sheet(drawn(sheet)), sheet)

    def test_one_sign_exchanged(self):
        sheet = sheet_of(2, 1, [((4, 2), "h"), ((1, 1), "o")])
        text = drawn_by_hand(sheet)
        for number, sign in enumerate(text):
            for other in "+-|.hvo #x\nHVO\t\r0":
                if other == sign:
                    continue
                changed = text[:number] + other + text[number + 1:]
                if sign in ".hvo" and other in ".hvo":
                    self.assertEqual(drawn(read_sheet(changed)), changed)
                    self.assertNotEqual(read_sheet(changed), sheet)
                else:
                    with self.subTest(changed=changed):
                        self.refused(changed)

    def test_one_sign_put_in_or_left_out(self):
        text = drawn_by_hand(sheet_of(1, 2, [((2, 4), "v"), ((1, 1), "h")]))
        for number in range(len(text) + 1):
            with self.subTest(number=number):
                if number < len(text):
                    self.refused(text[:number] + text[number + 1:])
                for sign in "+-|.hvo \n":
                    self.refused(text[:number] + sign + text[number:])

    def test_rows_left_out_doubled_or_exchanged(self):
        text = drawn_by_hand(sheet_of(2, 2, [((2, 4), "v"), ((1, 1), "h")]))
        rows = text.split("\n")
        for k in range(len(rows)):
            self.refused("\n".join(rows[:k] + rows[k + 1:]))
            self.refused("\n".join(rows[:k] + [rows[k]] + rows[k:]))
            self.refused("\n".join(rows[:k] + [""] + rows[k:]))
            self.refused("\n".join(rows[:k] + [rows[k] + " "] + rows[k + 1:]))
            self.refused("\n".join(rows[:k] + [rows[k][:-1]] + rows[k + 1:]))
            self.refused("\n".join(rows[:k] + [""] + rows[k + 1:]))
        self.refused("\n".join(rows[:1] + rows[2:3] + rows[1:2] + rows[3:]))
        self.refused("\n".join(rows[:5]) + "\n" + "\n".join(rows[:5]))

    def test_line_feeds_and_blanks_round_it(self):
        text = drawn_by_hand(sheet_of(1, 1, []))
        for changed in (text + "\n", "\n" + text, text + " ", " " + text, text + "\r", text.replace("\n", "\r\n")):
            self.refused(changed)
        self.refused("\n".join(row.rstrip() for row in text.split("\n")))

    def test_texts_of_other_sizes(self):
        for text in ["", " ", "+", "\n", "\n" * 4, "+ - +", "+\n \n|\n \n+", "+++++\n" * 4 + "+++++"]:
            self.refused(text)
        for wide, high in [(7, 1), (1, 7), (7, 7), (0, 1), (1, 0), (0, 0), (8, 2), (2, 20)]:
            self.refused(drawn_by_hand((wide, high, ())))

    def test_what_is_no_text(self):
        text = drawn_by_hand(sheet_of(1, 1, []))
        for thing in samples.STRANGE + [[text], text.split("\n"), (1, 1, ()), text.encode(), 5]:
            self.refused(thing)

    def test_told_kinds(self):
        sheet = read_sheet(drawn(sheet_of(1, 1, [((1, 1), "h")])))
        self.assertIs(type(sheet[2]), tuple)
        self.assertIs(type(sheet[2][0]), tuple)
        hash(sheet)


if __name__ == "__main__":
    unittest.main()
