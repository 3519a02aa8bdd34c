"""FLOORS in ascending order: their numbers, those that begin with KINDS, and those next to one another."""

from tatamirooms.drawn import drawn, lot_of, next_kept
from tatamirooms.errors import CanNot, TooMany
from tatamirooms.floors import need_floor
from tatamirooms.grid import let_table
from tatamirooms.passage import Passage, check_columns, only
from tatamirooms.plain import need_from, need_room, needed, plain_items, plain_kind
from tatamirooms.told import greatest_finished, least_finished

MOST_TOLD = 200


def passage_from(room, kinds):
    """The FLOORS of room that begin with kinds, gone through; TooMany() if a COLUMN is too long."""
    room = need_room(room)
    kinds = needed(plain_items(kinds, plain_kind))
    check_columns(room)
    remains = only(let_table(room, ()), room, kinds)
    if len(kinds) > len(room):
        remains[room[-1]] = ()
    return Passage(room, remains)


def some_passage_from(room, kinds):
    """As passage_from; CanNot() if no FLOOR begins with kinds."""
    passage = passage_from(room, kinds)
    if not passage.many():
        raise CanNot()
    return passage


def passage_of(room, floor):
    """The pair of all FLOORS of room, gone through, and the number of floor; TooMany() if a COLUMN is too long."""
    room = need_room(room)
    floor = need_floor(room, floor)
    check_columns(room)
    passage = Passage(room, let_table(room, ()))
    return passage, passage.lesser(floor)


def floor_at(room, number):
    """The FLOOR with this number; Broken(number) if there is none."""
    return drawn(room, (), number)


def floor_number(room, floor):
    """The number of floor."""
    return lot_of(room, (), floor)


def many_begin(room, kinds):
    """How many FLOORS begin with kinds."""
    return passage_from(room, kinds).many()


def least_with(room, kinds):
    """The least FLOOR that begins with kinds; CanNot() if there is none."""
    return some_passage_from(room, kinds).floor(0)


def greatest_with(room, kinds):
    """The greatest FLOOR that begins with kinds; CanNot() if there is none."""
    passage = some_passage_from(room, kinds)
    return passage.floor(passage.many() - 1)


def first_floor(room):
    """The least of all FLOORS."""
    return least_finished(room, ())


def last_floor(room):
    """The greatest of all FLOORS."""
    return greatest_finished(room, ())


def next_floor(room, floor):
    """The FLOOR right behind floor; CanNot() if there is none."""
    return next_kept(room, (), floor)


def floor_ahead(room, floor):
    """The FLOOR right ahead of floor; CanNot() if there is none."""
    passage, number = passage_of(room, floor)
    if number == 0:
        raise CanNot()
    return passage.floor(number - 1)


def floors_from(room, floor, many):
    """The list of floor and those right behind it, so many, or all to the last one; TooMany() above 200."""
    room = need_room(room)
    floor, many = need_floor(room, floor), need_from(many, 0)
    passage, number = passage_of(room, floor)
    if many > MOST_TOLD:
        raise TooMany()
    return [passage.floor(at) for at in range(number, min(number + many, passage.many()))]


def many_between(room, floor, other):
    """How many FLOORS stand between both, whichever is ahead."""
    room = need_room(room)
    floor, other = need_floor(room, floor), need_floor(room, other)
    passage, number = passage_of(room, floor)
    return max(abs(number - passage.lesser(other)) - 1, 0)


def begun_alike(floor, other):
    """With how many KINDS that are the same two FLOORS begin that are not the same."""
    many = 0
    while floor[many] == other[many]:
        many += 1
    return many


def told_by(room, floor):
    """The least number of KINDS with which no other FLOOR begins that floor begins with."""
    passage, number = passage_of(room, floor)
    # Whichever FLOOR begins most alike stands right behind floor, or right ahead of it.
    near = [at for at in (number - 1, number + 1) if 0 <= at < passage.many()]
    own = passage.floor(number)
    return max([begun_alike(own, passage.floor(at)) + 1 for at in near], default=0)
