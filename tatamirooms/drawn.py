"""FLOORS drawn by number, among those that keep LETS, or that have so many half mats."""

from tatamirooms.errors import Broken, CanNot
from tatamirooms.floors import need_floor
from tatamirooms.grid import keeps, let_table
from tatamirooms.passage import Passage, check_columns
from tatamirooms.plain import need_lets, need_number, need_room, needed, plain_number

MOST_DRAWN = 1000


def check_number(number, many):
    """Broken(number) for a number that tells none of many."""
    if not 0 <= number < many:
        raise Broken(number)


def drawn(room, lets, number):
    """The FLOOR with this number among those that keep lets; Broken(number) if there is none."""
    room = need_room(room)
    lets, number = need_lets(room, lets), need_number(number)
    check_columns(room)
    passage = Passage(room, let_table(room, lets))
    check_number(number, passage.many())
    return passage.floor(number)


def lot_of(room, lets, floor):
    """The number of floor among the FLOORS that keep lets; CanNot() if it does not."""
    room = need_room(room)
    lets, floor = need_lets(room, lets), need_floor(room, floor)
    check_columns(room)
    if not keeps(room, lets, floor):
        raise CanNot()
    return Passage(room, let_table(room, lets)).lesser(floor)


def drawn_half(room, half, number):
    """The FLOOR with this number among those with half half mats; Broken(number) if there is none."""
    room = need_room(room)
    half, number = need_number(half), need_number(number)
    check_columns(room)
    passage = Passage(room, let_table(room, ()), by_half=True)
    check_number(number, passage.many(half))
    return passage.floor(number, half)


def lot_half(room, floor):
    """The number of floor among the FLOORS with as many half mats."""
    room = need_room(room)
    floor = need_floor(room, floor)
    check_columns(room)
    return Passage(room, let_table(room, ()), by_half=True).lesser(floor, floor.count(0))


def behind(room, lets, floor):
    """How many FLOORS that keep lets are less than floor."""
    room = need_room(room)
    lets, floor = need_lets(room, lets), need_floor(room, floor)
    check_columns(room)
    return Passage(room, let_table(room, lets)).lesser(floor)


def next_kept(room, lets, floor):
    """The least FLOOR greater than floor that keeps lets; CanNot() if there is none."""
    room = need_room(room)
    lets, floor = need_lets(room, lets), need_floor(room, floor)
    check_columns(room)
    passage = Passage(room, let_table(room, lets))
    number = passage.lesser(floor) + (1 if keeps(room, lets, floor) else 0)
    if number >= passage.many():
        raise CanNot()
    return passage.floor(number)


def evenly(room, lets, many):
    """The list of many FLOORS that keep lets, evenly from the first one on; CanNot() if there is none."""
    room = need_room(room)
    lets, many = need_lets(room, lets), needed(plain_number(many, 1, MOST_DRAWN))
    check_columns(room)
    passage = Passage(room, let_table(room, lets))
    if not passage.many():
        raise CanNot()
    return [passage.floor(at * passage.many() // many) for at in range(many)]
