"""FLOORS of a ROOM, and the MATS of which they are made."""

from tatamirooms.errors import CanNot, TooMany
from tatamirooms.grid import ALL_KINDS, BACK, EAST, SOUTH, flaws_of, is_whole, pairs_of, table_of, toward
from tatamirooms.passage import Passage, check_lines
from tatamirooms.plain import (
    as_told, check_square, need_pair, need_room, needed, plain_kinds, plain_number, plain_pairs, plain_set)

MOST_FLOORS = 2000


def plain_floor(room, value):
    """A FLOOR of room, read; None for what is none."""
    laid = plain_kinds(value, len(room))
    if laid is None or not is_whole(room, laid):
        return None
    return laid


def need_floor(room, value):
    """The FLOOR of room that value is, else Unfit()."""
    return needed(plain_floor(room, value))


def is_floor(room, thing):
    """Whether thing is a FLOOR of room."""
    return as_told(plain_floor(need_room(room), thing), thing)


def all_mats(room):
    """The set of all MATS that can be laid in room."""
    room = need_room(room)
    return tuple(sorted([(square,) for square in room] + pairs_of(room)))


def mat_on(square, kind):
    """The MAT on square, which has kind."""
    if kind == 0:
        return (square,)
    return tuple(sorted([square, toward(square, kind)]))


def mats(room, floor):
    """The set of the MATS of floor."""
    room = need_room(room)
    floor = need_floor(room, floor)
    return tuple(sorted(set([mat_on(square, kind) for square, kind in zip(room, floor)])))


def plain_lot(room, value):
    """A set of MATS of room, read; None for what is none."""
    lot = plain_set(value, plain_pairs)
    known = table_of(all_mats(room))
    if lot is None or not all([mat in known for mat in lot]):
        return None
    return lot


def kind_in(square, mat):
    """The KIND that square, one of mat, has by it."""
    return [kind for kind in range(5) if mat_on(square, kind) == mat][0]


def by_mats(room, lot):
    """The FLOOR whose MATS are lot; CanNot() if there is none."""
    room = need_room(room)
    lot = needed(plain_lot(room, lot))
    lain = [(square, kind_in(square, mat)) for mat in lot for square in mat]
    if tuple(sorted([square for square, _ in lain])) != room:
        raise CanNot()
    laid = tuple([kind for _, kind in sorted(lain)])
    if not is_whole(room, laid):
        raise CanNot()
    return laid


def kind_at(room, floor, square):
    """The pair of square, read, and its KIND, once all three are as they must be."""
    room = need_room(room)
    floor, square = need_floor(room, floor), need_pair(square)
    check_square(room, square)
    return square, floor[room.index(square)]


def kind_of(room, floor, square):
    """The KIND of square."""
    return kind_at(room, floor, square)[1]


def mat_of(room, floor, square):
    """The MAT on square."""
    place, kind = kind_at(room, floor, square)
    return mat_on(place, kind)


def how_many_half(room, floor):
    """How many half mats floor has."""
    return need_floor(need_room(room), floor).count(0)


def flaws(room, laid):
    """The set of the spots of room at which laid does not fit."""
    room = need_room(room)
    return flaws_of(room, needed(plain_kinds(laid, len(room))))


def first_flaw(room, laid):
    """The least spot at which laid does not fit; CanNot() if there is none."""
    found = flaws(room, laid)
    if not found:
        raise CanNot()
    return found[0]


def courses(room, number):
    """The FLOOR in courses: joined east by 0, 1, south by 2, 3, from the SQUARES with x + y + number even."""
    room = need_room(room)
    number = needed(plain_number(number, 0, 3))
    kind = EAST if number < 2 else SOUTH
    own = table_of(room)
    laid = []
    for square in room:
        turn = kind if (square[0] + square[1] + number) % 2 == 0 else BACK[kind]
        laid.append(turn if toward(square, turn) in own else 0)
    return tuple(laid)


def some_floor(room):
    """A FLOOR of room."""
    return courses(room, 0)


def all_floors(room):
    """The list, ascending, of all FLOORS; TooMany() if room is too great, or they are more than 2,000."""
    room = need_room(room)
    check_lines(room)
    passage = Passage(room, {square: ALL_KINDS for square in room}, either=True)
    if passage.many() > MOST_FLOORS:
        raise TooMany()
    return passage.floors()
