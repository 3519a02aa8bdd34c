"""KINDS, and what fits."""

from tatamirooms.errors import CanNot
from tatamirooms.grid import (
    east_fit, four_fit, kinds_in, south_fit, spot_fits, spots_of, spots_with, table_of, toward)
from tatamirooms.plain import (
    as_told, check_square, need_kind, need_pair, need_room, needed, plain_kind, plain_kinds, plain_pairs)


def is_kind(thing):
    """Whether thing is a KIND."""
    return as_told(plain_kind(thing), thing)


def is_laid(room, thing):
    """Whether thing is a tuple of KINDS, one for each SQUARE of room."""
    room = need_room(room)
    return as_told(plain_kinds(thing, len(room)), thing)


def plain_spot(room, value):
    """A spot of room, read; None for what is none."""
    spot = plain_pairs(value)
    if not spot or spot[0] not in room or spot not in spots_with(room, spot[0]):
        return None
    return spot


def is_spot(room, thing):
    """Whether thing is a spot of room."""
    room = need_room(room)
    return as_told(plain_spot(room, thing), thing)


def kinds_at(room, square):
    """The set of the KINDS that fit at square alone."""
    room, square = need_room(room), need_pair(square)
    check_square(room, square)
    return kinds_in(room, square)


def joined_with(room, square, kind):
    """The SQUARE with which kind joins square, None for 0; CanNot() if it is none of room."""
    room, square, kind = need_room(room), need_pair(square), need_kind(kind)
    check_square(room, square)
    if kind == 0:
        return None
    other = toward(square, kind)
    if other not in room:
        raise CanNot()
    return other


def fits_east(kind, other):
    """Whether kind of a SQUARE and other of the one east of it fit."""
    return east_fit(need_kind(kind), need_kind(other))


def fits_south(kind, other):
    """Whether kind of a SQUARE and other of the one south of it fit."""
    return south_fit(need_kind(kind), need_kind(other))


def point_fits(kinds):
    """Whether a POINT fits if the four SQUARES about it have kinds."""
    return four_fit(needed(plain_kinds(kinds, 4)))


def spots(room):
    """The set of all spots of room."""
    return spots_of(need_room(room))


def spots_at(room, square):
    """The set of the spots of room that have square."""
    room, square = need_room(room), need_pair(square)
    check_square(room, square)
    return spots_with(room, square)


def fits_at(room, laid, spot):
    """Whether laid fits at spot."""
    room = need_room(room)
    laid = needed(plain_kinds(laid, len(room)))
    spot = needed(plain_spot(room, spot))
    kinds = dict(zip(room, laid))
    return spot_fits(room, spot, [kinds[square] for square in spot])


def fitting(room, spot):
    """The list, ascending, of the tuples of KINDS, each fitting at its SQUARE alone, with which spot fits."""
    room = need_room(room)
    spot = needed(plain_spot(room, spot))
    own = table_of(room)
    rows = [()]
    for square in spot:
        rows = [row + (kind,) for row in rows for kind in kinds_in(own, square)]
    return [row for row in rows if spot_fits(own, spot, row)]
