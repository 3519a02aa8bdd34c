"""CLUES: KINDS told at some SQUARES that just one FLOOR keeps."""

from tatamirooms.errors import CanNot, NoSquare, TooMany
from tatamirooms.floors import MOST_FLOORS, need_floor, plain_floor
from tatamirooms.grid import keeps, let_table, rim_of
from tatamirooms.passage import Passage, check_columns
from tatamirooms.plain import as_told, need_lets, need_pair, need_room, plain_lets
from tatamirooms.rims import lets_of
from tatamirooms.told import passage_with, some_passage

MOST_SQUARES = 16


def are_single(lets):
    """Whether lets name one KIND for each SQUARE."""
    return all([len(kinds) == 1 for _, kinds in lets])


def tell_one(room, lets):
    """Whether lets are CLUES, of plain values."""
    return are_single(lets) and Passage(room, let_table(room, lets)).many() == 1


def without(lets, square):
    """lets without the pair of square."""
    return tuple([(own, kinds) for own, kinds in lets if own != square])


def read_clues(room, lets):
    """The ROOM, and the CLUES of it, that these are, else Unfit(), TooMany() or CanNot()."""
    room = need_room(room)
    lets = need_lets(room, lets)
    check_columns(room)
    if not tell_one(room, lets):
        raise CanNot()
    return room, lets


def read_named(room, lets, square):
    """The ROOM, its LETS and a SQUARE that they name, else Unfit(), NoSquare() or TooMany()."""
    room = need_room(room)
    lets, square = need_lets(room, lets), need_pair(square)
    if square not in [own for own, _ in lets]:
        raise NoSquare(square)
    check_columns(room)
    return room, lets, square


def are_clues(room, thing):
    """Whether thing is CLUES of room."""
    room = need_room(room)
    check_columns(room)
    lets = plain_lets(room, thing)
    return as_told(lets, thing) and tell_one(room, lets)


def clued_floor(room, lets):
    """The FLOOR that keeps lets, if it is the only one; else CanNot()."""
    passage = passage_with(room, lets)
    if passage.many() != 1:
        raise CanNot()
    return passage.floor(0)


def two_floors(room, lets):
    """A pair of FLOORS that keep lets, the lesser one first; CanNot() if fewer than two do."""
    passage = passage_with(room, lets)
    if passage.many() < 2:
        raise CanNot()
    return passage.floor(0), passage.floor(1)


def plain_two(room, value):
    """A pair of FLOORS of room, the lesser one first; None for what is none."""
    if not isinstance(value, (list, tuple)) or len(value) != 2:
        return None
    floor, other = plain_floor(room, value[0]), plain_floor(room, value[1])
    if floor is None or other is None or floor >= other:
        return None
    return floor, other


def are_two_floors(room, lets, thing):
    """Whether thing is a pair of FLOORS that keep lets, the lesser one first."""
    room = need_room(room)
    lets = need_lets(room, lets)
    check_columns(room)
    both = plain_two(room, thing)
    return as_told(both, thing) and keeps(room, lets, both[0]) and keeps(room, lets, both[1])


def needless(room, lets):
    """The set of the SQUARES without whose pair CLUES are CLUES still, each by itself; CanNot() if they are none."""
    room, lets = read_clues(room, lets)
    return tuple([square for square, _ in lets if tell_one(room, without(lets, square))])


def thinned(room, lets):
    """What is left of CLUES if each pair, in order, goes that is needless then; CanNot() if they are none."""
    room, lets = read_clues(room, lets)
    found = lets
    for square, _ in lets:
        if tell_one(room, without(found, square)):
            found = without(found, square)
    return found


def why_needed(room, lets, square):
    """A FLOOR that keeps the CLUES lets, but not that at square; CanNot() if there is none, or lets are no CLUES."""
    room, lets, square = read_named(room, lets, square)
    if not tell_one(room, lets):
        raise CanNot()
    told = let_table(room, lets)[square]
    remains = let_table(room, without(lets, square))
    remains[square] = tuple([kind for kind in remains[square] if kind not in told])
    passage = Passage(room, remains)
    if not passage.many():
        raise CanNot()
    return passage.floor(0)


def is_why_needed(room, lets, square, thing):
    """Whether thing is a FLOOR that keeps the CLUES lets, but not that at square; False if lets are no CLUES."""
    room, lets, square = read_named(room, lets, square)
    floor = plain_floor(room, thing)
    if not as_told(floor, thing) or not tell_one(room, lets):
        return False
    return keeps(room, without(lets, square), floor) and not keeps(room, lets, floor)


def all_told(room, floor):
    """The LETS of all SQUARES with their KINDS in floor."""
    room = need_room(room)
    return lets_of(room, need_floor(room, floor))


def rim_told(room, floor):
    """The LETS of the SQUARES of the RIM with their KINDS in floor."""
    told = dict(all_told(room, floor))
    return tuple([(square, told[square]) for square in rim_of(need_room(room))])


def few_floors(room):
    """The list of all FLOORS; TooMany() if a COLUMN is too long, or the SQUARES or the FLOORS are too many."""
    check_columns(room)
    if len(room) > MOST_SQUARES:
        raise TooMany()
    passage = Passage(room, let_table(room, ()))
    if passage.many() > MOST_FLOORS:
        raise TooMany()
    return passage.floors()


def marks_at(floors, place):
    """A dict, by KIND, of a number with a bit for each of floors that has it at this place."""
    found = {}
    for at, floor in enumerate(floors):
        found[floor[place]] = found.get(floor[place], 0) | 1 << at
    return found


def fewest_places(floors, floor):
    """The places of as few KINDS of floor as tell it among floors."""
    # A mat tells the same at both its SQUARES: so of places with one mark the first alone is tried.
    places = {}
    for place, kind in enumerate(floor):
        places.setdefault(marks_at(floors, place)[kind], place)
    wanted = 1 << floors.index(floor)
    found = {(1 << len(floors)) - 1: ()}
    while wanted not in found:
        grown = {}
        for left, told in found.items():
            for mark, place in places.items():
                if left & mark != left:
                    grown.setdefault(left & mark, told + (place,))
        found = grown
    return sorted(found[wanted])


def fewest_clues(room, floor):
    """CLUES that floor keeps, of the fewest SQUARES."""
    room = need_room(room)
    floor = need_floor(room, floor)
    places = fewest_places(few_floors(room), floor)
    return tuple([(room[place], (floor[place],)) for place in places])


def is_fewest_clues(room, floor, thing):
    """Whether thing is CLUES that floor keeps, of the fewest SQUARES."""
    room = need_room(room)
    floor = need_floor(room, floor)
    floors = few_floors(room)
    lets = plain_lets(room, thing)
    if not as_told(lets, thing) or not keeps(room, lets, floor) or not tell_one(room, lets):
        return False
    return len(lets) == len(fewest_places(floors, floor))


def least_many(room):
    """Of how many SQUARES CLUES of room are at least, for any FLOOR."""
    room = need_room(room)
    floors = few_floors(room)
    marks = sorted(set([mark for place in range(len(room)) for mark in marks_at(floors, place).values()]))
    found = {(1 << len(floors)) - 1: True}
    many = 0
    # A number without its lowest bit is 0 if it has but one: then just one FLOOR is left.
    while all([left & left - 1 for left in found]):
        found = {left & mark: True for left in found for mark in marks if left & mark}
        many += 1
    return many


def hint(room, lets):
    """The least SQUARE, and its KIND, that all FLOORS have that keep lets, but lets do not tell; CanNot() without."""
    seen = some_passage(room, lets).kinds_seen()
    told = dict(need_lets(need_room(room), lets))
    for square in need_room(room):
        if len(seen[square]) == 1 and len(told.get(square, ())) != 1:
            return square, seen[square][0]
    raise CanNot()
