"""One judge: whether DEMANDS stand, PAPERS against them, REASONS for them."""

from tatamirooms.clues import are_single, are_two_floors
from tatamirooms.columns import same_told
from tatamirooms.floors import mats
from tatamirooms.grid import ALL_KINDS, flaws_of, let_table
from tatamirooms.passage import Passage, check_columns
from tatamirooms.plain import (
    as_told, needed, plain_items, plain_kind, plain_kinds, plain_lets, plain_number, plain_pair, plain_room)
from tatamirooms.told import is_finished, shut_reaches

FLOOR = "floor"
REST = "rest"
SURE = "sure"
MANY = "many"
CLUES = "clues"
# How many parts a DEMAND of each word has.
PARTS = {"floor": 3, "rest": 3, "sure": 5, "many": 3, "clues": 3}
MOST = 10000000000000000000000000000000000000000


def plain_part(word, room, value):
    """What stands behind the ROOM in a DEMAND of this word; None for what is none."""
    if word == FLOOR:
        return plain_kinds(value, len(room))
    if word == MANY:
        return plain_number(value, 0, MOST)
    lets = plain_lets(room, value)
    if lets is not None and word == CLUES and not are_single(lets):
        return None
    return lets


def plain_demand(value):
    """A DEMAND; None for what is none."""
    if not isinstance(value, (list, tuple)) or len(value) == 0 or not isinstance(value[0], str):
        return None
    word = value[0]
    if len(value) != PARTS.get(word):
        return None
    room = plain_room(value[1])
    part = None if room is None else plain_part(word, room, value[2])
    if part is None:
        return None
    if word != SURE:
        return word, room, part
    square, kind = plain_pair(value[3]), plain_kind(value[4])
    return None if square not in room or kind is None else (word, room, part, square, kind)


def need_demand(value):
    """The DEMAND that value is, else Unfit(); TooMany(), but for FLOORS, if a COLUMN is too long."""
    demand = needed(plain_demand(value))
    if demand[0] != FLOOR:
        check_columns(demand[1])
    return demand


def struck(demand):
    """The LETS of a DEMAND of what is sure, with its KIND struck at its SQUARE."""
    _, _, lets, square, kind = demand
    told = dict(lets)
    told[square] = tuple([own for own in told.get(square, ALL_KINDS) if own != kind])
    return tuple(sorted(told.items()))


def some_kept(room, lets):
    """A FLOOR that keeps lets; None if there is none."""
    passage = Passage(room, let_table(room, lets))
    return passage.floor(0) if passage.many() else None


def first_two(room, lets):
    """The list of the first two FLOORS that keep lets, or of as many as there are."""
    passage = Passage(room, let_table(room, lets))
    return [passage.floor(number) for number in range(min(passage.many(), 2))]


def halves_counted(room):
    """The tuple of how many FLOORS have 0 half mats, 1, up to as many as there are SQUARES."""
    found = dict(Passage(room, let_table(room, ()), by_half=True, either=True).halves())
    return tuple([found.get(half, 0) for half in range(len(room) + 1)])


def is_demand(thing):
    """Whether thing is a DEMAND."""
    return as_told(plain_demand(thing), thing)


def is_so(demand):
    """Whether demand stands."""
    return paper_against(demand) is None


def paper_against(demand):
    """A PAPER against demand; None if it stands."""
    demand = need_demand(demand)
    word, room, part = demand[:3]
    if word == FLOOR:
        found = flaws_of(room, part)
        return found[0] if found else None
    if word == REST:
        return shut_reaches(room, part)
    if word == SURE:
        return some_kept(room, struck(demand))
    if word == MANY:
        many = sum(halves_counted(room))
        return many if many > part else None
    floors = first_two(room, part)
    return None if len(floors) == 1 else tuple(floors)


def is_paper_against(demand, thing):
    """Whether thing is a PAPER against demand."""
    demand = need_demand(demand)
    word, room, part = demand[:3]
    if word == FLOOR:
        return any([same_told(flaw, thing) for flaw in flaws_of(room, part)])
    if word == SURE:
        return is_finished(room, struck(demand), thing)
    found = paper_against(demand)
    if word == CLUES and found:
        return are_two_floors(room, part, thing)
    return found is not None and same_told(found, thing)


def reason_for(demand):
    """A REASON for demand; None if it does not stand."""
    demand = need_demand(demand)
    word, room, part = demand[:3]
    if word == FLOOR:
        return None if flaws_of(room, part) else mats(room, part)
    if word == REST:
        return some_kept(room, part)
    if word == SURE:
        return shut_reaches(room, struck(demand))
    if word == MANY:
        found = halves_counted(room)
        return None if sum(found) > part else found
    floors = first_two(room, part)
    return floors[0] if len(floors) == 1 else None


def is_reason_for(demand, thing):
    """Whether thing is a REASON for demand."""
    demand = need_demand(demand)
    word, room, part = demand[:3]
    if word == REST:
        return is_finished(room, part, thing)
    found = reason_for(demand)
    return found is not None and same_told(found, thing)


def first_fallen(demands):
    """The number of the first of demands that does not stand; None if all stand."""
    for at, demand in enumerate(needed(plain_items(demands, plain_demand))):
        if not is_so(demand):
            return at
    return None
