"""Where two FLOORS of a ROOM are unlike, and the DIAGONALS that lead from there to the RIM."""

from tatamirooms.errors import CanNot
from tatamirooms.floors import all_floors, need_floor
from tatamirooms.grid import rim_of, table_of
from tatamirooms.plain import as_told, check_square, need_pair, need_room, needed, plain_pair

WAYS = ((-1, -1), (-1, 1), (1, -1), (1, 1))


def unlike_at(room, floor, other):
    """The list of the SQUARES at which two FLOORS, of plain values, are unlike."""
    return [square for square, kind, another in zip(room, floor, other) if kind != another]


def read_floors(room, floor, other):
    """The ROOM, and the two FLOORS of it, that these are, else Unfit()."""
    room = need_room(room)
    return room, need_floor(room, floor), need_floor(room, other)


def plain_way(value):
    """A pair of numbers that are 1 or -1; None for what is none."""
    way = plain_pair(value)
    return way if way in WAYS else None


def unlike(room, floor, other):
    """The set of the SQUARES at which floor and other are unlike."""
    room, floor, other = read_floors(room, floor, other)
    return tuple(unlike_at(room, floor, other))


def far_apart(room, floor, other):
    """At how many SQUARES floor and other are unlike."""
    return len(unlike(room, floor, other))


def rim_unlike(room, floor, other):
    """The set of the SQUARES of the RIM at which floor and other are unlike."""
    room, floor, other = read_floors(room, floor, other)
    edge = table_of(rim_of(room))
    return tuple([square for square in unlike_at(room, floor, other) if square in edge])


def firsts(room, floor, other, corner):
    """The set of the firsts by corner; () for FLOORS alike."""
    room, floor, other = read_floors(room, floor, other)
    i, j = needed(plain_way(corner))
    found = unlike_at(room, floor, other)
    least = min([i * x + j * y for x, y in found], default=0)
    return tuple([(x, y) for x, y in found if i * x + j * y == least])


def diagonal_from(differ, edge, square, way):
    """The tuple of the SQUARES of the DIAGONAL from square by way; () if there is none."""
    found = []
    x, y = square
    while (x, y) in differ:
        found.append((x, y))
        if (x, y) in edge:
            return tuple(found)
        x, y = x + way[0], y + way[1]
    return ()


def diagonals_from(room, floor, other, square):
    """The list, by ways ascending, of the pairs of a way and the SQUARES of the DIAGONAL from square by it."""
    differ = table_of(unlike_at(room, floor, other))
    edge = table_of(rim_of(room))
    found = [(way, diagonal_from(differ, edge, square, way)) for way in WAYS]
    return [(way, squares) for way, squares in found if squares]


def read_diagonals(room, floor, other, square):
    """As diagonals_from, once all four are as they must be."""
    room, floor, other = read_floors(room, floor, other)
    square = need_pair(square)
    check_square(room, square)
    return diagonals_from(room, floor, other, square)


def ways_out(room, floor, other, square):
    """The set of the ways by which a DIAGONAL goes from square; () where they are alike."""
    return tuple([way for way, _ in read_diagonals(room, floor, other, square)])


def diagonal(room, floor, other, square):
    """The SQUARES of the DIAGONAL from square by the least of its ways, from square on; CanNot() without."""
    found = read_diagonals(room, floor, other, square)
    if not found:
        raise CanNot()
    return found[0][1]


def plain_diagonal(value):
    """A pair (square, way), of whatever room; None for what is none."""
    if not isinstance(value, (list, tuple)) or len(value) != 2:
        return None
    square, way = plain_pair(value[0]), plain_way(value[1])
    if square is None or way is None:
        return None
    return square, way


def is_diagonal(room, floor, other, thing):
    """Whether thing is a DIAGONAL of floor and other."""
    room, floor, other = read_floors(room, floor, other)
    told = plain_diagonal(thing)
    if not as_told(told, thing):
        return False
    return told[1] in [way for way, _ in diagonals_from(room, floor, other, told[0])]


def nearest(room, floor):
    """The list, ascending, of the FLOORS that are unlike floor at the fewest SQUARES; TooMany() as all_floors."""
    room = need_room(room)
    floor = need_floor(room, floor)
    pairs = [(len(unlike_at(room, floor, other)), other) for other in all_floors(room) if other != floor]
    fewest = min([far for far, _ in pairs], default=0)
    return [other for far, other in pairs if far == fewest]
