"""Square ROOMS: their FLOORS by half mats, counted by the formula, and told by numbers."""

from tatamirooms.errors import CanNot, TooMany
from tatamirooms.floors import need_floor
from tatamirooms.grid import let_table
from tatamirooms.passage import LONGEST_LINE, Passage, only
from tatamirooms.plain import need_from, need_kinds
from tatamirooms.rooms import boxed

LONGEST_LIST = 2000


def floors_with(many, half):
    """How many FLOORS of many by many SQUARES have half half mats, by the formula."""
    if half == many:
        return many << many - 1
    if half > many or (many - half) % 2 == 1:
        return 0
    return (half << half) + (half + 1 << half + 1)


def floors_all(many):
    """How many FLOORS many by many SQUARES have: floors_with, added up."""
    return (3 * many - 4 << many - 1) + 2


def check_side(many):
    """TooMany() if a side is too long to go through the FLOORS themselves."""
    if many > LONGEST_LINE:
        raise TooMany()


def need_square_floor(many, value):
    """The FLOOR of many by many SQUARES that value is, else Unfit()."""
    # How long it is comes first: so no ROOM of a great side is made for what is none of its FLOORS.
    laid = need_kinds(value, many * many)
    return need_floor(boxed(many, many), laid)


def passage_of(many):
    """The FLOORS of many by many SQUARES, by half mats."""
    room = boxed(many, many)
    return Passage(room, let_table(room, ()), by_half=True)


def square_count(many, half):
    """How many FLOORS of many by many SQUARES have just half half mats."""
    many, half = need_from(many, 1), need_from(half, 0)
    return floors_with(many, half)


def square_all(many):
    """How many FLOORS many by many SQUARES have."""
    return floors_all(need_from(many, 1))


def square_halves(many):
    """The list, ascending, of the pairs (half, count) with a count above 0; TooMany() above 2,000."""
    many = need_from(many, 1)
    if many > LONGEST_LIST:
        raise TooMany()
    return [(half, floors_with(many, half)) for half in range(many % 2, many + 1, 2)]


def square_half_sum(many):
    """How many half mats lie in all FLOORS together; TooMany() above 2,000."""
    return sum([half * count for half, count in square_halves(many)])


def square_least(number):
    """The least side with number FLOORS or more."""
    number = need_from(number, 0)
    many = 1
    while floors_all(many) < number:
        many += 1
    return many


def square_floor(many, half, number):
    """The FLOOR, of those with half half mats, ahead of which number others stand; CanNot() if there is none."""
    many, half, number = need_from(many, 1), need_from(half, 0), need_from(number, 0)
    check_side(many)
    if number >= floors_with(many, half):
        raise CanNot()
    return passage_of(many).floor(number, half)


def square_number(many, floor):
    """The pair (half, number) by which square_floor tells floor."""
    many = need_from(many, 1)
    floor = need_square_floor(many, floor)
    check_side(many)
    half = floor.count(0)
    return half, passage_of(many).lesser(floor, half)


def square_next(many, floor):
    """The next FLOOR with as many half mats as floor; CanNot() if there is none."""
    half, number = square_number(many, floor)
    return square_floor(many, half, number + 1)


def square_by_row(many, half, kinds):
    """How many FLOORS with just half half mats have kinds as the ROW of the first COLUMN."""
    many, half = need_from(many, 1), need_from(half, 0)
    kinds = need_kinds(kinds, many)
    check_side(many)
    room = boxed(many, many)
    return Passage(room, only(let_table(room, ()), room[:many], kinds), by_half=True).many(half)
