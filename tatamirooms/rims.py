"""RIMS, and FLOORS read from their BORDERS."""

from tatamirooms.errors import CanNot
from tatamirooms.floors import all_floors, mats, need_floor
from tatamirooms.grid import rim_of, table_of
from tatamirooms.masks import kinds_of, let_masks, rounds
from tatamirooms.passage import Passage
from tatamirooms.plain import as_told, need_kinds, need_room, plain_kinds


def lets_of(edge, kinds):
    """The LETS that name each SQUARE of a RIM with its KIND."""
    return tuple([(square, (kind,)) for square, kind in zip(edge, kinds)])


def floor_with(room, edge, kinds):
    """The FLOOR that has kinds on the RIM, which is edge; None if there is none."""
    masks = let_masks(room, lets_of(edge, kinds))
    rounds(room, masks, whole=False)
    remains = {square: kinds_of(masks[square]) for square in room}
    many = [len(remains[square]) for square in room]
    if 0 in many:
        return None
    # One KIND each is a FLOOR. In every BORDER tried ROUNDS alone decided; what they might leave is gone through.
    if max(many) == 1:
        return tuple([remains[square][0] for square in room])
    passage = Passage(room, remains, either=True)
    return passage.floor(0) if passage.many() else None


def border(room, floor):
    """The BORDER of floor."""
    room = need_room(room)
    kinds = dict(zip(room, need_floor(room, floor)))
    return tuple([kinds[square] for square in rim_of(room)])


def inside(room, border):
    """The FLOOR whose BORDER is border; CanNot() if there is none."""
    room = need_room(room)
    edge = rim_of(room)
    floor = floor_with(room, edge, need_kinds(border, len(edge)))
    if floor is None:
        raise CanNot()
    return floor


def is_border(room, thing):
    """Whether thing is the BORDER of a FLOOR of room."""
    room = need_room(room)
    edge = rim_of(room)
    kinds = plain_kinds(thing, len(edge))
    return as_told(kinds, thing) and floor_with(room, edge, kinds) is not None


def border_lets(room, border):
    """The LETS that name each SQUARE of the RIM, its KIND alone."""
    edge = rim_of(need_room(room))
    return lets_of(edge, need_kinds(border, len(edge)))


def why_no_border(room, border):
    """STEPS of border_lets behind which some SQUARE has no KIND left; CanNot() if ROUNDS leave each one."""
    lets = border_lets(room, border)
    room = need_room(room)
    masks = let_masks(room, lets)
    done = rounds(room, masks, whole=False)
    if all([masks[square] for square in room]):
        raise CanNot()
    return tuple(done)


def rim_mats(room, floor):
    """The set of the MATS of floor that have a SQUARE of the RIM."""
    room = need_room(room)
    held = table_of(rim_of(room))
    return tuple([mat for mat in mats(room, floor) if any([square in held for square in mat])])


def inner_mats(room, floor):
    """The set of the MATS of floor that have no SQUARE of the RIM."""
    own = table_of(rim_mats(room, floor))
    return tuple([mat for mat in mats(room, floor) if mat not in own])


def borders(room):
    """The list, ascending, of the BORDERS of all FLOORS; TooMany() as all_floors."""
    floors = all_floors(room)
    room = need_room(room)
    edge = table_of(rim_of(room))
    places = [at for at, square in enumerate(room) if square in edge]
    if len(places) == len(room):
        return floors
    return sorted([tuple([floor[at] for at in places]) for floor in floors])
