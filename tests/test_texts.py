"""Texts of SHEETS, and pictures [22]."""

import itertools
import unittest

from tatamirooms.errors import BadText, CanNot, Unfit
from tatamirooms.floors import is_floor
from tatamirooms.texts import is_sheet, picture, read_picture, read_room, read_sheet, room_text, sheet_text
from tests.naive import TRIAL_ROOMS, boxed, floors_of, grown_room, listed, low_room, seeded, some_lets

HALL = ((0, 0), (0, 1), (1, 0), (1, 1), (2, 1))
BOXES = ((1, 1), (1, 2), (2, 1), (2, 2), (1, 3), (3, 1))
# All ROOMS in these boxes that reach to the east and the south of them.
PARTS_OF_BOXES = [
    tuple((x, y) for x in range(wide) for y in range(high) if marks >> (x * high + y) & 1)
    for high, wide in BOXES for marks in range(1, 1 << high * wide)
    if any(marks >> (x * high + high - 1) & 1 for x in range(wide))
    and any(marks >> ((wide - 1) * high + y) & 1 for y in range(high))]


def sheets():
    """SHEETS of many ROOMS, with LETS told by chance."""
    chance = seeded(131)
    rooms = TRIAL_ROOMS + [grown_room(chance, many) for many in (5, 20, 60, 100)] + [low_room(chance, 90)]
    rooms.append(((0, 10 ** 12 - 1), (10 ** 12 - 1, 0)))
    return [(room, lets) for room in rooms
            for lets in [(), ((room[0], ()),), tuple((own, (0, 1, 2, 3, 4)) for own in room), some_lets(chance, room)]]


def loosened(chance, text):
    """The text with other blanks, remarks, and lines without words put in between."""
    found = []
    for line in text.split("\n")[:-1]:
        for _ in range(chance.randrange(3)):
            found.append(chance.choice(("", "   ", "# let 9 9", "#", "  ## square .,;")))
        words = line.split(" ")
        row = " " * chance.randrange(3) + words[0]
        for word in words[1:]:
            row += " " * chance.randrange(1, 4) + word
        found.append(row + chance.choice(("", " ", "  # ! a remark", "#let 0 0 1", " #")))
    return "\n".join(found) + chance.choice(("", "\n", "\n\n", "\n# at the end"))


class Refuses(unittest.TestCase):
    def bad(self, read, text, line):
        with self.subTest(text=text):
            with self.assertRaises(BadText) as raised:
                read(text)
            self.assertEqual(raised.exception.line, line)


class Sheets(Refuses):
    def test_what_is_told_is_read_back(self):
        chance = seeded(132)
        for room, lets in sheets():
            text = sheet_text((room, lets))
            self.assertEqual(read_sheet(text), (room, lets))
            self.assertEqual(sheet_text([listed(room), listed(lets)]), text)
            for _ in range(4):
                self.assertEqual(read_sheet(loosened(chance, text)), (room, lets))
            self.assertEqual(read_sheet(text[:-1]), (room, lets))
            self.assertEqual(read_room(text), room)
            self.assertEqual(room_text(room), sheet_text((room, ())))
            self.assertEqual(read_sheet(room_text(room)), (room, ()))

    def test_rows_stand_ascending_one_blank_between_two_words(self):
        for room, lets in sheets():
            wanted = [f"square {x} {y}" for x, y in room]
            wanted += [" ".join(["let", str(x), str(y)] + [str(kind) for kind in kinds]) for (x, y), kinds in lets]
            self.assertEqual(sheet_text((room, lets)), "".join(row + "\n" for row in wanted))

    def test_what_is_a_sheet(self):
        for room, lets in sheets():
            self.assertIs(is_sheet((room, lets)), True)
            self.assertIs(is_sheet([room, lets]), False)
            self.assertIs(is_sheet((list(room), lets)), False)
            self.assertIs(is_sheet((room, list(lets))), False)
        for thing in ((), (HALL,), (HALL, (), ()), (HALL, None), (None, ()), ((), ()), (HALL[::-1], ()), HALL, "ab", 7, None,
                      (HALL, (((3, 3), ()),)), (HALL, (((0, 0), (4, 1)),)), (HALL, (((0, 0), (True,)),)),
                      (HALL, (((0, 1), ()), ((0, 0), ()))), (((0, True),), ()), (HALL, (((0, False), ()),)),
                      (HALL, (((0, 0), [1]),)), (HALL, (((0, 0), (5,)),))):
            self.assertIs(is_sheet(thing), False)
            if thing != (HALL, (((0, 0), [1]),)):
                with self.assertRaises(Unfit):
                    sheet_text(thing)
        for room in ((), HALL[::-1], None, 7, ((0, -1),)):
            with self.assertRaises(Unfit):
                room_text(room)

    def test_no_row(self):
        for text in ("", "\n", "  ", "# square 0 0", "\n\n  # a\n"):
            for read in (read_sheet, read_room):
                self.bad(read, text, 0)

    def test_faults_of_signs_stand_ahead_of_those_of_rows(self):
        for text, line in (("Square 0 0", 0), ("square 0 0\nsquare 0,1", 1), ("what\nsquare 0 0\nlet 0 0 !", 2),
                           ("square 0 0\n\nlet 9 9\nlet 0 0 +1\n_", 3), ("\n\n.", 2), ("square 0 0 # a.b\n~", 1)):
            for read in (read_sheet, read_room):
                self.bad(read, text, line)

    def test_rows_that_are_not_as_told(self):
        good = "square 0 0\nsquare 0 2\nsquare 1 0\n"
        for row in ("square", "square 3", "square 3 0 0", "square -1 0", "square 0 -1", "square 07 0", "square a 0",
                    "square 3 - 0", "square 1234567890123 0", "room 3 0", "squares 3 0", "squar 3 0", "0 3 0", "-",
                    "let", "let 0", "let -1 0", "let 0 0 5", "let 0 0 -1", "let 0 0 1 1", "let 0 0 2 1",
                    "let 0 0 00", "let 0 0 a", "let 0 0 1 2 3 4 4", "lets 0 0", "square3 0", "let 0 0 1-", "3 0 square"):
            self.bad(read_sheet, good + row, 3)
            self.bad(read_sheet, good + "\n # a\n" + row + " # b\nsquare 9 9\nnone", 5)
            self.bad(read_sheet, row + "\n" + good, 0)
            self.bad(read_room, good + "  " + row, 3)

    def test_rows_that_cannot_stand_there(self):
        good = "square 0 0\nsquare 0 2\nsquare 1 0\n"
        for row in ("square 0 0", "square 0 1", "square 1 0", "square 0 3", "let 0 1", "let 1 1 0", "let 2 0", "let 0 3 0"):
            self.bad(read_sheet, good + row, 3)
        for rows, line in (("let 0 2\nlet 0 0", 4), ("let 0 2\nlet 0 2 1", 4), ("let 0 0\nsquare 2 0", 4),
                           ("let 0 0\nsquare 2 0\nlet 0 0", 4), ("let 0 0\nlet 1 0\nlet 0 2", 5),
                           ("let 0 0\n\nsquare 2 0", 5), ("square 1 1\nlet 2 0\nsquare 2 0", 4)):
            self.bad(read_sheet, good + rows, line)
        self.bad(read_sheet, "let 0 0\nsquare 0 0", 0)
        self.bad(read_sheet, "square 0 0\nlet 0 1 0\nsquare 0 1", 1)
        # Of two faults in one text the first one is told.
        self.bad(read_sheet, "square 0 1\nsquare 0 0\nwhat", 1)
        self.bad(read_sheet, "square 0 1\nwhat\nsquare 0 0", 1)

    def test_texts_that_are_read(self):
        self.assertEqual(read_sheet("square 0 0"), (((0, 0),), ()))
        self.assertEqual(read_sheet("square 0 0\nsquare 60 60\nlet 0 0\nlet 60 60 0 4"),
                         (((0, 0), (60, 60)), (((0, 0), ()), ((60, 60), (0, 4)))))
        self.assertEqual(read_sheet("#\nsquare   7 0# let 7 0 1\n \nlet 7 0 3\n"), (((7, 0),), (((7, 0), (3,)),)))
        self.assertEqual(read_room("square 7 0\nlet 7 0 0 1"), ((7, 0),))
        self.assertEqual(read_sheet("square 999999999999 0"), (((999999999999, 0),), ()))


class Pictures(Refuses):
    def test_what_is_drawn_is_read_back(self):
        for room in TRIAL_ROOMS:
            for floor in floors_of(room)[:40]:
                text = picture(room, floor)
                self.assertEqual(read_picture(text), (room, floor))
                rows = text.split("\n")
                self.assertEqual(rows.pop(), "")
                self.assertEqual(len(rows), max(y for _, y in room) + 1)
                self.assertEqual({len(row) for row in rows}, {room[-1][0] + 1})
                table = dict(zip(room, floor))
                for y, row in enumerate(rows):
                    for x, sign in enumerate(row):
                        self.assertEqual(sign, "o>v<^"[table[x, y]] if (x, y) in table else ".")

    def test_each_picture_of_few_signs(self):
        drawn = {}
        for high, wide in BOXES:
            for signs in itertools.product("o>v<^.", repeat=high * wide):
                text = "".join("".join(signs[y * wide:(y + 1) * wide]) + "\n" for y in range(high))
                try:
                    room, floor = read_picture(text)
                except CanNot:
                    continue
                self.assertTrue(is_floor(room, floor))
                self.assertEqual(picture(room, floor), text)
                drawn[text] = (room, floor)
        self.assertEqual(len(drawn), sum(len(floors_of(room)) for room in PARTS_OF_BOXES))

    def test_pictures_of_no_floor(self):
        for text in (".\n", "...\n...\n", ">\n", "><.\n", "><\n..\n", "oo\noo\n", "><\n><\n>.\n", ">o\n", "v\nv\n", "<>\n",
                     "^\n", ".o.\n", "o.\n.>\n", "v.\n.^\n", "o.\n..\n"):
            with self.subTest(text=text), self.assertRaises(CanNot):
                read_picture(text)
        self.assertEqual(read_picture("...\n..o\n"), (((2, 1),), (0,)))
        self.assertEqual(read_picture(".o\n.o\n"), (((1, 0), (1, 1)), (0, 0)))

    def test_faults(self):
        for text, line in (("", 0), ("\n", 0), ("\n\n", 0), ("o", 0), ("oo\no", 1), ("o\no", 1), ("o\n\n", 1), ("o\n\no\n", 1),
                           ("oo\n>\n", 1), ("oo\n><>\n", 1), ("o\nx\n", 1), ("O\n", 0), ("o \n", 0), (" o\n", 0),
                           ("oo\noo\no", 2), ("oo\noo\noo", 2), ("oo\no\noo", 1), ("x", 0), ("oo\nxx\no", 1),
                           ("oo\no\nx", 1), ("><\n><", 1), ("#\n", 0), ("o# a\n", 0), ("o\n \n", 1), ("oo\n\nx", 1),
                           ("oooo\nx", 1), ("0\n", 0), ("oo\noo\n\n", 2)):
            self.bad(read_picture, text, line)

    def test_great_pictures(self):
        room = boxed(7, 14)
        floor = (0,) * 98
        with self.assertRaises(Unfit):
            picture(room, floor)
        row = tuple((x, 60) for x in range(61))
        text = picture(row, (0,) * 61)
        self.assertEqual(text, ("." * 61 + "\n") * 60 + "o" * 61 + "\n")
        self.assertEqual(read_picture(text), (row, (0,) * 61))

    def test_in_which_order_it_is_refused(self):
        for told in ((HALL[::-1], (1, 0, 3, 1, 3)), (HALL, (1, 0, 3, 1, 0)), (HALL, None), (None, None)):
            with self.assertRaises(Unfit):
                picture(*told)
        self.assertEqual(picture(room=listed(HALL), floor=[1, 0, 3, 1, 3]), "><.\no><\n")


if __name__ == "__main__":
    unittest.main()
