"""Texts of ROOMS with LETS, and pictures of FLOORS, told and read."""

from tatamirooms.errors import BadText, CanNot
from tatamirooms.floors import need_floor
from tatamirooms.grid import is_whole
from tatamirooms.plain import as_told, need_room, needed, plain_kind, plain_lets, plain_room, plain_set, plain_square
from tatamirooms.signs import number_of, text_of, word_of, words

SIGNS = "o>v<^"
OUTSIDE = "."
SQUARE = "square"
LET = "let"


def plain_sheet(value):
    """A SHEET; None for what is none."""
    if not isinstance(value, (list, tuple)) or len(value) != 2:
        return None
    room = plain_room(value[0])
    lets = None if room is None else plain_lets(room, value[1])
    return None if lets is None else (room, lets)


def is_sheet(thing):
    """Whether thing is a SHEET."""
    return as_told(plain_sheet(thing), thing)


def sheet_text(sheet):
    """The text of a SHEET."""
    room, lets = needed(plain_sheet(sheet))
    rows = [(SQUARE, square) for square in room] + [(LET, square + kinds) for square, kinds in lets]
    told = []
    for line, (name, numbers) in enumerate(rows):
        told += [(name, line)] + [(word_of(number), line) for number in numbers]
    return text_of(told)


def rows_told(text):
    """The list of the pairs of a line with words, and these; BadText(line) for a fault of a sign."""
    found = {}
    for word, line in words(text):
        found.setdefault(line, []).append(word)
    return list(found.items())


def rising(square, ahead):
    """Whether square stands above all those ahead of it, which are ascending."""
    return not ahead or square > ahead[-1]


def read_row(row, room, lets):
    """The pair (square, kinds) of a row, kinds None in a row square; None if it can't stand behind room and lets."""
    numbers = [number_of(word) for word in row[1:]]
    square = plain_square(numbers[:2])
    kinds = plain_set(numbers[2:], plain_kind)
    if square is None or kinds is None:
        return None
    if row[0] == SQUARE and kinds == () and not lets and rising(square, room):
        return square, None
    if row[0] == LET and square in room and rising(square, [own for own, _ in lets]):
        return square, kinds
    return None


def read_sheet(text):
    """The SHEET of text; BadText(line) for its first fault."""
    room = []
    lets = []
    for line, row in rows_told(text):
        told = read_row(row, room, lets)
        if told is None:
            raise BadText(line)
        if told[1] is None:
            room.append(told[0])
        else:
            lets.append(told)
    if not room:
        raise BadText(0)
    return tuple(room), tuple(lets)


def room_text(room):
    """The text of a ROOM without LETS."""
    return sheet_text((room, ()))


def read_room(text):
    """The ROOM of the SHEET of text."""
    return read_sheet(text)[0]


def drawn_as(room, floor):
    """The picture of a FLOOR, of plain values."""
    kinds = dict(zip(room, floor))
    wide, high = room[-1][0] + 1, max([y for _, y in room]) + 1
    rows = []
    for at in range(high):
        rows.append("".join([SIGNS[kinds[x, at]] if (x, at) in kinds else OUTSIDE for x in range(wide)]))
    return "".join([row + "\n" for row in rows])


def picture(room, floor):
    """The picture of a FLOOR."""
    room = need_room(room)
    return drawn_as(room, need_floor(room, floor))


def picture_rows(text):
    """The list of the lines of a picture; BadText(line) for its first fault."""
    rows = text.split("\n")
    ended = rows[-1] == ""
    if ended and len(rows) > 1:
        rows = rows[:-1]
    for line, row in enumerate(rows):
        if row == "" or len(row) != len(rows[0]) or not all([sign in SIGNS + OUTSIDE for sign in row]):
            raise BadText(line)
    if not ended:
        raise BadText(len(rows) - 1)
    return rows


def read_picture(text):
    """The pair (room, floor) with this picture; BadText(line) for its first fault, CanNot() if there is none."""
    rows = picture_rows(text)
    laid = sorted([((x, y), SIGNS.index(sign)) for y, row in enumerate(rows) for x, sign in enumerate(row)
                   if sign != OUTSIDE])
    room = tuple([square for square, _ in laid])
    floor = tuple([kind for _, kind in laid])
    if not room or not is_whole(room, floor) or drawn_as(room, floor) != text:
        raise CanNot()
    return room, floor
