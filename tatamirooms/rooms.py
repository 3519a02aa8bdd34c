"""Rooms: their SQUARES, RIM, POINTS, pieces and pillars."""

from tatamirooms.errors import CanNot, NoPoint
from tatamirooms.grid import AROUND, SIDES, four_about, inner_of, points_of, pushed, rim_of, table_of, within
from tatamirooms.plain import (
    as_told, check_square, need_pair, need_room, needed, plain_number, plain_pair, plain_room, plain_square)


def is_room(thing):
    """Whether thing is a ROOM."""
    return as_told(plain_room(thing), thing)


def is_square(room, thing):
    """Whether thing is a SQUARE of room."""
    room = need_room(room)
    return as_told(plain_pair(thing), thing) and thing in room


def beside(room, square):
    """The set of the SQUARES of room beside square."""
    room, square = need_room(room), need_pair(square)
    check_square(room, square)
    return within(room, pushed(square, SIDES))


def around(room, square):
    """The set of the SQUARES of room around square."""
    room, square = need_room(room), need_pair(square)
    check_square(room, square)
    return within(room, pushed(square, AROUND))


def rim(room):
    """The set of the SQUARES of the RIM of room."""
    return rim_of(need_room(room))


def inner(room):
    """The set of the inner SQUARES of room."""
    return inner_of(need_room(room))


def points(room):
    """The set of the POINTS of room."""
    return points_of(need_room(room))


def about(room, point):
    """The four SQUARES about a POINT: northwest, southwest, northeast, southeast."""
    room, point = need_room(room), need_pair(point)
    four = four_about(point)
    if len(within(room, four)) < 4:
        raise NoPoint(point)
    return four


def sizes(room):
    """How many SQUARES, SQUARES of the RIM, POINTS there are."""
    room = need_room(room)
    return len(room), len(rim_of(room)), len(points_of(room))


def lot_from(start, ways, cells, passed):
    """The list of the cells to which ways lead from start, step by step; each is marked in passed."""
    passed[start] = True
    found = [start]
    waiting = [start]
    while waiting:
        for other in pushed(waiting.pop(), ways):
            if other in cells and other not in passed:
                passed[other] = True
                found.append(other)
                waiting.append(other)
    return found


def lots(cells, ways):
    """The list of the lots of cells that hang together by ways, each ascending, in order."""
    passed = {}
    found = []
    for cell in cells:
        if cell not in passed:
            found.append(tuple(sorted(lot_from(cell, ways, cells, passed))))
    return found


def pieces(room):
    """The set of the ROOMS into which room falls."""
    return tuple(lots(table_of(need_room(room)), SIDES))


def drawn_in(numbers):
    """New numbers from 1 for these, in order: next ones stay next, all wider gaps become gaps of one."""
    found = {}
    place = 0
    for number in sorted(set(numbers)):
        place += 1 if number - 1 in found or not found else 2
        found[number] = place
    return found


def pillars(room):
    """How many pillars room has."""
    room = need_room(room)
    # A column or a row without SQUARES is all outside: drawing such together parts and joins no lots.
    across, down = drawn_in([x for x, _ in room]), drawn_in([y for _, y in room])
    taken = {(across[x], down[y]): True for x, y in room}
    wide, high = across[room[-1][0]] + 2, max(list(down.values())) + 2
    free = {(x, y): True for x in range(wide) for y in range(high) if (x, y) not in taken}
    return len(lots(free, AROUND)) - 1


def box_of(room):
    """The least x and y, and the greatest, of SQUARES of room."""
    room = need_room(room)
    ys = [y for _, y in room]
    return (room[0][0], min(ys)), (room[-1][0], max(ys))


def boxed(high, wide):
    """The ROOM of all SQUARES (x, y) with x below wide, y below high."""
    high, wide = needed(plain_number(high, 1)), needed(plain_number(wide, 1))
    return tuple([(x, y) for x in range(wide) for y in range(high)])


def square_more(room, square):
    """The ROOM with square; CanNot() if it has it."""
    room, square = need_room(room), needed(plain_square(square))
    if square in room:
        raise CanNot()
    return tuple(sorted([square] + list(room)))


def square_less(room, square):
    """The ROOM without square; CanNot() if nothing is left."""
    room, square = need_room(room), need_pair(square)
    check_square(room, square)
    if len(room) == 1:
        raise CanNot()
    return tuple([own for own in room if own != square])
