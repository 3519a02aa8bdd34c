"""STEPS that strike what cannot be, and ROUNDS of them."""

from tatamirooms.errors import CanNot
from tatamirooms.grid import spots_with, stays, table_of
from tatamirooms.masks import kinds_of, let_masks, rounds, spot_left, spots_near
from tatamirooms.plain import (
    as_told, check_square, need_kind, need_lets, need_pair, need_room, needed,
    plain_items, plain_kind, plain_pair, plain_pairs)


def is_against(room, masks, spot, square, kind):
    """Whether with kind at square the other SQUARES of spot can have no KINDS of masks that fit."""
    if len(spot) == 1:
        return not stays(room, square, kind)
    tried = {own: masks[own] for own in spot}
    tried[square] = 1 << kind
    return 0 in spot_left(spot, tried)


def plain_step(value):
    """A triple (square, kind, spot) as STEPS have it, of whatever room."""
    if not isinstance(value, (list, tuple)) or len(value) != 3:
        return None
    square, kind, spot = plain_pair(value[0]), plain_kind(value[1]), plain_pairs(value[2])
    if square is None or kind is None or spot is None:
        return None
    return square, kind, spot


def masks_behind(room, lets, told):
    """A dict of the masks that told leave at each SQUARE; None if told are no STEPS of lets."""
    masks = let_masks(room, lets)
    known = table_of([(square,) for square in room] + spots_near(room)[0])
    for square, kind, spot in told:
        if square not in masks or not masks[square] >> kind & 1 or spot not in known or square not in spot:
            return None
        if not is_against(masks, masks, spot, square, kind):
            return None
        masks[square] -= 1 << kind
    return masks


def plain_steps(room, lets, value):
    """STEPS of lets, read; None for what are none."""
    told = plain_items(value, plain_step)
    if told is None or masks_behind(room, lets, told) is None:
        return None
    return told


def as_lets(room, masks):
    """LETS that name each SQUARE, with its KINDS in masks."""
    return tuple([(square, kinds_of(masks[square])) for square in room])


def spots_against(room, lets, square, kind):
    """The set of the spots that would strike kind at square behind lets alone."""
    room = need_room(room)
    lets, square, kind = need_lets(room, lets), need_pair(square), need_kind(kind)
    check_square(room, square)
    masks = let_masks(room, lets)
    return tuple([spot for spot in spots_with(masks, square) if is_against(masks, masks, spot, square, kind)])


def steps(room, lets):
    """ROUNDS of lets, as STEPS."""
    room = need_room(room)
    return tuple(rounds(room, let_masks(room, need_lets(room, lets))))


def is_steps(room, lets, thing):
    """Whether thing is STEPS of lets, all of ROUNDS or not."""
    room = need_room(room)
    return as_told(plain_steps(room, need_lets(room, lets), thing), thing)


def left_by(room, lets, steps):
    """What STEPS of lets leave, as LETS that name each SQUARE."""
    room = need_room(room)
    lets = need_lets(room, lets)
    told = needed(plain_steps(room, lets, steps))
    return as_lets(room, masks_behind(room, lets, told))


def left(room, lets):
    """What ROUNDS of lets leave, as LETS that name each SQUARE."""
    room = need_room(room)
    masks = let_masks(room, need_lets(room, lets))
    rounds(room, masks)
    return as_lets(room, masks)


def falls(room, lets):
    """Whether ROUNDS of lets leave some SQUARE no KIND."""
    room = need_room(room)
    masks = let_masks(room, need_lets(room, lets))
    rounds(room, masks, whole=False)
    return 0 in [masks[square] for square in room]


def next_sure(room, lets):
    """The least SQUARE that lets do not hold to one KIND, but ROUNDS do, and this KIND; CanNot() without."""
    room = need_room(room)
    lets = need_lets(room, lets)
    told, masks = let_masks(room, lets), let_masks(room, lets)
    rounds(room, masks, whole=False)
    sure = [square for square in room if len(kinds_of(masks[square])) == 1 and masks[square] != told[square]]
    if not sure or 0 in [masks[square] for square in room]:
        raise CanNot()
    return sure[0], kinds_of(masks[sure[0]])[0]


def all_sure(room, lets):
    """The LETS that name just the SQUARES for which ROUNDS leave one KIND."""
    return tuple([(square, kinds) for square, kinds in left(room, lets) if len(kinds) == 1])
