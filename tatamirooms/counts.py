"""How many FLOORS a ROOM has, and how many of them keep LETS."""

from tatamirooms.columns import squares_at
from tatamirooms.grid import let_table
from tatamirooms.passage import Passage, check_lines, only
from tatamirooms.plain import check_square, need_kinds, need_lets, need_number, need_pair, need_room


def how_many(room):
    """How many FLOORS room has."""
    return how_many_with(room, ())


def how_many_with(room, lets):
    """How many FLOORS of room keep lets."""
    room = need_room(room)
    lets = need_lets(room, lets)
    check_lines(room)
    return Passage(room, let_table(room, lets), either=True).many()


def by_half(room, lets):
    """The tuple, ascending, of the pairs of a number of half mats and how many FLOORS that keep lets have it."""
    room = need_room(room)
    lets = need_lets(room, lets)
    check_lines(room)
    return tuple(Passage(room, let_table(room, lets), by_half=True, either=True).halves())


def kinds_many(room, lets, square):
    """The tuple, by KIND, of how many FLOORS that keep lets have it at square."""
    room = need_room(room)
    lets, square = need_lets(room, lets), need_pair(square)
    check_square(room, square)
    check_lines(room)
    return tuple(Passage(room, let_table(room, lets), either=True).kinds_many(square))


def with_row(room, lets, x, row):
    """How many FLOORS that keep lets have row at x."""
    room = need_room(room)
    lets, x = need_lets(room, lets), need_number(x)
    squares = squares_at(room, x)
    row = need_kinds(row, len(squares))
    check_lines(room)
    return Passage(room, only(let_table(room, lets), squares, row), either=True).many()
