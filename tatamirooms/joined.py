"""Two ROOMS side by side: their SEAM, and the HALVES of FLOORS on either side of it."""

from tatamirooms.errors import CanNot
from tatamirooms.floors import need_floor
from tatamirooms.grid import (
    BACK, EAST, SOUTH, WEST, four_about, four_fit, is_whole, let_table, points_of, table_of, toward)
from tatamirooms.passage import Passage, check_columns
from tatamirooms.plain import as_told, need_number, need_room, needed, plain_kinds
from tatamirooms.transfer import columns_of, totals_of, worths_of


def read_beside(room, other, down):
    """The pair of room and of other set beside it; Unfit() for what is none, CanNot() if it would stand below 0."""
    room, other, down = need_room(room), need_room(other), need_number(down)
    more = room[-1][0] + 1 - other[0][0]
    if min([y for _, y in other]) + down < 0:
        raise CanNot()
    return room, tuple([(x + more, y + down) for x, y in other])


def seam_of(room, east):
    """The SEAM of room and of east, which is set beside it already."""
    own = table_of(east)
    return tuple([((x, y), (x + 1, y)) for x, y in room if (x + 1, y) in own])


def seam_points_of(room, east):
    """The set of the SEAM POINTS of both, likewise."""
    return tuple([point for point in points_of(room + east) if point[0] == east[0][0]])


def plain_half(room, edge, across, value):
    """KINDS of room that fit, the SQUARES of edge maybe joined out of it by across; None for what is none."""
    laid = plain_kinds(value, len(room))
    if laid is None:
        return None
    kinds = dict(zip(room, laid))
    held = table_of(edge)
    for square, kind in kinds.items():
        leaves = kind == across and square in held
        if not leaves and kinds.get(toward(square, kind)) != BACK[kind]:
            return None
    if not all([four_fit([kinds[square] for square in four_about(point)]) for point in points_of(room)]):
        return None
    return laid


def plain_west_half(room, east, value):
    """A west HALF of both; None for what is none."""
    return plain_half(room, [square for square, _ in seam_of(room, east)], EAST, value)


def plain_east_half(room, east, value):
    """An east HALF of both; None for what is none."""
    return plain_half(east, [square for _, square in seam_of(room, east)], WEST, value)


def side_by_side(room, other, down):
    """The ROOM of room and of other set beside it."""
    room, east = read_beside(room, other, down)
    return room + east


def seam(room, other, down):
    """The SEAM: the pairs of a SQUARE of room and one of other, as moved, beside one another."""
    room, east = read_beside(room, other, down)
    return seam_of(room, east)


def seam_points(room, other, down):
    """The set of the SEAM POINTS."""
    room, east = read_beside(room, other, down)
    return seam_points_of(room, east)


def is_west_half(room, other, down, thing):
    """Whether thing is a west HALF."""
    room, east = read_beside(room, other, down)
    return as_told(plain_west_half(room, east, thing), thing)


def is_east_half(room, other, down, thing):
    """Whether thing is an east HALF."""
    room, east = read_beside(room, other, down)
    return as_told(plain_east_half(room, east, thing), thing)


def parted(room, other, down, floor):
    """The pair of the west and the east HALF of floor."""
    room, east = read_beside(room, other, down)
    floor = need_floor(room + east, floor)
    return floor[:len(room)], floor[len(room):]


def read_halves(room, other, down, laid, other_laid):
    """The pair of the ROOM of both, and of the KINDS that both HALVES have in it."""
    room, east = read_beside(room, other, down)
    laid = needed(plain_west_half(room, east, laid))
    return room + east, laid + needed(plain_east_half(room, east, other_laid))


def seam_fits(room, other, down, laid, other_laid):
    """Whether a west and an east HALF are a FLOOR."""
    whole, kinds = read_halves(room, other, down, laid, other_laid)
    return is_whole(whole, kinds)


def put_together(room, other, down, laid, other_laid):
    """The FLOOR that a west and an east HALF are; CanNot() if they are none."""
    whole, kinds = read_halves(room, other, down, laid, other_laid)
    if not is_whole(whole, kinds):
        raise CanNot()
    return kinds


def read_columns(room, other, down):
    """The pair of room and of other set beside it; TooMany(), too, if a COLUMN of one is too long."""
    room, east = read_beside(room, other, down)
    check_columns(room + east)
    return room, east


def column_place(room):
    """The place of the COLUMN behind the last one of room."""
    return len(sorted(set([x for x, _ in room])))


def words_of(kinds_counted, edge, norths, across):
    """The list, ascending, of the WORDS with how many HALVES have each.

    kinds_counted are pairs of a dict of the KINDS of the COLUMN at the SEAM, and of how many HALVES have them; edge
    are the SQUARES at the SEAM, and norths the northern ones at the SEAM POINTS, on this side.
    """
    found = {}
    for kinds, many in kinds_counted:
        crossed = tuple([at for at, square in enumerate(edge) if kinds[square] == across])
        held = tuple([at for at, square in enumerate(norths) if kinds[square] == SOUTH])
        found[crossed, held] = found.get((crossed, held), 0) + many
    return [(crossed, held, many) for (crossed, held), many in sorted(found.items())]


def west_words(room, other, down):
    """The list, ascending, of triples (across, held, how many west HALVES have this WORD)."""
    room, east = read_columns(room, other, down)
    columns = columns_of(room + east, let_table(room + east, ()))[:column_place(room)]
    totals = totals_of(columns)[-1]
    squares = room[len(room) - columns[-1].size:]
    counted = [(dict(zip(squares, row)), totals[group]) for row, group, _ in columns[-1].rows if totals[group]]
    edge = [square for square, _ in seam_of(room, east)]
    norths = [(x - 1, y - 1) for x, y in seam_points_of(room, east)]
    return words_of(counted, edge, norths, EAST)


def east_words(room, other, down):
    """The list, ascending, of triples (across, held, how many east HALVES have this WORD)."""
    room, east = read_columns(room, other, down)
    columns = columns_of(room + east, let_table(room + east, ()))[column_place(room):]
    worth = worths_of(columns, 0)[1]
    counted = [(dict(zip(east, row)), worth[at]) for row, _, at in columns[0].rows if worth[at]]
    edge = [square for _, square in seam_of(room, east)]
    norths = [(x, y - 1) for x, y in seam_points_of(room, east)]
    return words_of(counted, edge, norths, WEST)


def many_joined(room, other, down):
    """How many FLOORS the ROOM of both has."""
    room, east = read_columns(room, other, down)
    return Passage(room + east, let_table(room + east, ()), either=True).many()


def many_crossed(room, other, down, many):
    """How many FLOORS of the ROOM of both have many MATS across the SEAM."""
    room, east = read_beside(room, other, down)
    many = need_number(many)
    check_columns(room + east)
    rows = Passage(room + east, let_table(room + east, ())).rows_many()[column_place(room)]
    return sum([count for row, count in rows if row.count(WEST) == many])
