"""ROOMS and FLOORS moved: mirrored, turned, and pushed to where the numbers begin."""

from tatamirooms.floors import need_floor
from tatamirooms.plain import check_square, need_pair, need_room, needed, plain_move

QUARTER = (0, 4, 1, 2, 3)
MIRROR = (0, 3, 2, 1, 4)
MOVES = (0, 1, 2, 3, 4, 5, 6, 7)


def pair_moved(pair, number):
    """The pair of numbers that pair comes to be, not yet pushed."""
    x, y = pair
    if number >= 4:
        x = -x
    for _ in range(number % 4):
        x, y = y, -x
    return x, y


def kind_moved(kind, number):
    """The KIND that kind comes to be."""
    if number >= 4:
        kind = MIRROR[kind]
    for _ in range(number % 4):
        kind = QUARTER[kind]
    return kind


def places_moved(room, number):
    """The list of the SQUARES that those of room come to be, in the order of room."""
    pairs = [pair_moved(square, number) for square in room]
    least_x, least_y = min([x for x, _ in pairs]), min([y for _, y in pairs])
    return [(x - least_x, y - least_y) for x, y in pairs]


def room_by(room, number):
    """The ROOM moved, of plain values."""
    return tuple(sorted(places_moved(room, number)))


def floor_by(room, floor, number):
    """The FLOOR moved, of plain values."""
    kinds = [kind_moved(kind, number) for kind in floor]
    return tuple([kind for _, kind in sorted(zip(places_moved(room, number), kinds))])


def need_move(value):
    """The MOVE that value is, else Unfit()."""
    return needed(plain_move(value))


def moved(room, number):
    """The ROOM moved."""
    return room_by(need_room(room), need_move(number))


def square_moved(room, square, number):
    """The SQUARE that square comes to be as room is moved."""
    room, square, number = need_room(room), need_pair(square), need_move(number)
    check_square(room, square)
    return places_moved(room, number)[room.index(square)]


def floor_moved(room, floor, number):
    """The FLOOR of the ROOM moved that floor comes to be."""
    room = need_room(room)
    floor, number = need_floor(room, floor), need_move(number)
    return floor_by(room, floor, number)


def move_back(number):
    """The MOVE by which all is as it was ahead of number, but pushed."""
    number = need_move(number)
    # Whoever mirrors, and then turns, is back where he was by doing the same once more.
    return number if number >= 4 else -number % 4


def moves_put(number, many):
    """The MOVE that is as number and then many."""
    number, many = need_move(number), need_move(many)
    if many < 4:
        return number // 4 * 4 + (number + many) % 4
    # Turning to the left and then mirroring is as mirroring and then turning to the right.
    return (1 - number // 4) * 4 + (many - number) % 4


def moves_of(room):
    """The set of the MOVES by which room comes to be what it comes to be by MOVE 0."""
    room = need_room(room)
    still = room_by(room, 0)
    return tuple([number for number in MOVES if room_by(room, number) == still])


def seen_alike(room, other):
    """Whether some MOVE of room makes what MOVE 0 makes of other."""
    room, other = need_room(room), need_room(other)
    return room_by(other, 0) in [room_by(room, number) for number in MOVES]


def least_seen(room):
    """The least of all ROOMS that room comes to be by MOVES."""
    room = need_room(room)
    return min([room_by(room, number) for number in MOVES])


def floors_alike(room, floor, other):
    """Whether one of moves_of(room) makes of floor what MOVE 0 makes of other."""
    room = need_room(room)
    floor, other = need_floor(room, floor), need_floor(room, other)
    return other in [floor_by(room, floor, number) for number in moves_of(room)]
