"""Pieces of a ROOM, each with FLOORS of its own, and LINES at which a FLOOR is clear."""

from tatamirooms.counts import how_many
from tatamirooms.errors import Unfit
from tatamirooms.floors import mats, need_floor
from tatamirooms.grid import EAST, SIDES, SOUTH, let_table, pairs_of, table_of
from tatamirooms.passage import Passage, check_lines
from tatamirooms.plain import need_room, needed, plain_pair
from tatamirooms.rooms import lots, pieces
from tatamirooms.shares import reduced


def piece_counts(room):
    """The list of how many FLOORS each piece has; TooMany() if a piece alone is too great."""
    return [how_many(piece) for piece in pieces(room)]


def many_by_pieces(room):
    """How many FLOORS room has, told by its pieces."""
    found = 1
    for many in piece_counts(room):
        found = found * many
    return found


def floor_pieces(room, floor):
    """The list of the FLOORS of the pieces."""
    room = need_room(room)
    kinds = dict(zip(room, need_floor(room, floor)))
    return [tuple([kinds[square] for square in piece]) for piece in pieces(room)]


def floor_of_pieces(room, floors):
    """The FLOOR of room put together of one of each piece."""
    room = need_room(room)
    parts = pieces(room)
    if not isinstance(floors, (list, tuple)) or len(floors) != len(parts):
        raise Unfit()
    kinds = {}
    for piece, floor in zip(parts, floors):
        kinds.update(dict(zip(piece, need_floor(piece, floor))))
    return tuple([kinds[square] for square in room])


def hangs_without(piece, square):
    """Whether what is left of a piece without square, if any, hangs together."""
    rest = table_of([own for own in piece if own != square])
    return len(lots(rest, SIDES)) < 2


def parting(room):
    """The set of the SQUARES without each of which alone what is left of its piece does not hang together."""
    return tuple(sorted([square for piece in pieces(room) for square in piece if not hangs_without(piece, square)]))


def line_between(square, other):
    """The LINE between two SQUARES beside one another, ascending."""
    if square[0] == other[0]:
        return 1, other[1]
    return 0, other[0]


def lines_of(room):
    """The set of all LINES, of a plain ROOM."""
    return tuple(sorted(set([line_between(square, other) for square, other in pairs_of(room)])))


def plain_line(room, value):
    """A LINE of room; None for what is none."""
    line = plain_pair(value)
    return line if line in lines_of(room) else None


def lines(room):
    """The set of all LINES of room."""
    return lines_of(need_room(room))


def clear_lines(room, floor):
    """The set of the LINES at which floor is clear."""
    room = need_room(room)
    crossed = table_of([line_between(mat[0], mat[1]) for mat in mats(room, floor) if len(mat) == 2])
    return tuple([line for line in lines_of(room) if line not in crossed])


def clear_at(room, line):
    """How many FLOORS are clear at line, of plain values."""
    across = SOUTH if line[0] else EAST
    remains = let_table(room, ())
    for square, other in pairs_of(room):
        if line_between(square, other) == line:
            remains[square] = tuple([kind for kind in remains[square] if kind != across])
    return Passage(room, remains, either=True).many()


def many_clear(room, line):
    """How many FLOORS are clear at line."""
    room = need_room(room)
    line = needed(plain_line(room, line))
    check_lines(room)
    return clear_at(room, line)


def clear_share(room, line):
    """The share of the FLOORS that are clear at line."""
    return reduced(many_clear(room, line), how_many(room))


def clear_mean(room):
    """At how many LINES a FLOOR is clear in the mean, as a pair: the first number over the second one."""
    whole = how_many(room)
    room = need_room(room)
    return reduced(sum([clear_at(room, line) for line in lines_of(room)]), whole)
