"""The document read word by word, slowly, and the small ROOMS over which its guarantees are tried."""

import functools
import itertools
import random

WAYS = {1: (1, 0), 2: (0, 1), 3: (-1, 0), 4: (0, -1)}
EIGHT = [(i, j) for i in (-1, 0, 1) for j in (-1, 0, 1) if (i, j) != (0, 0)]


def beside(square):
    return [(square[0] + i, square[1] + j) for i, j in WAYS.values()]


def around(square):
    return [(square[0] + i, square[1] + j) for i, j in EIGHT]


def about(point):
    x, y = point
    return [(x - 1, y - 1), (x - 1, y), (x, y - 1), (x, y)]


def rim(room):
    return tuple(s for s in room if not all(other in room for other in around(s)))


def points(room):
    return tuple(p for p in room if all(s in room for s in about(p)))


def partner(square, kind):
    return None if kind == 0 else (square[0] + WAYS[kind][0], square[1] + WAYS[kind][1])


def two_fit(one, kind, two, other):
    """Whether SQUARES one and two, two east or south of one, fit."""
    if (one[0] + 1, one[1]) == two:
        return (kind == 1) == (other == 3)
    assert (one[0], one[1] + 1) == two
    return (kind == 2) == (other == 4)


def point_fits(point, table):
    four = about(point)
    return any(partner(a, table[a]) == b and partner(b, table[b]) == a for a in four for b in four)


def pairs(squares):
    return [(a, b) for a in squares for b in squares if a < b and b in beside(a)]


def is_floor(room, laid):
    table = dict(zip(room, laid))
    if any(kind and partner(square, kind) not in table for square, kind in table.items()):
        return False
    if not all(two_fit(a, table[a], b, table[b]) for a, b in pairs(room)):
        return False
    return all(point_fits(point, table) for point in points(room))


def floors(room):
    """All FLOORS, by a trial of all tuples of KINDS, but for those whose first KINDS do not fit already."""
    rows = [()]
    for at, square in enumerate(room):
        let = [k for k in range(5) if k == 0 or partner(square, k) in room]
        ahead = [own for own in room[:at] if own in beside(square)]
        rows = [row + (k,) for row in rows for k in let
                if all(two_fit(own, row[room.index(own)], square, k) for own in ahead)]
    return [laid for laid in rows if is_floor(room, laid)]


def count_by_mats(room):
    """How many FLOORS there are, by laying MATS, not KINDS, such that no four of them meet at a POINT."""
    taken, meets = {}, {p: about(p) for p in points(room)}

    def lay(at):
        while at < len(room) and room[at] in taken:
            at += 1
        if at == len(room):
            return 1
        x, y = room[at]
        many = 0
        for mat in (((x, y),), ((x, y), (x, y + 1)), ((x, y), (x + 1, y))):
            if all(s in room and s not in taken for s in mat):
                taken.update({s: at for s in mat})
                if not any(len({taken[s] for s in four if s in taken}) == 4 for four in meets.values()):
                    many += lay(at + 1)
                for s in mat:
                    del taken[s]
        return many

    return lay(0)


def spots(room):
    fours = [tuple(about(point)) for point in points(room)]
    return tuple(sorted([(square,) for square in room] + pairs(room) + fours))


def spot_can_stand(room, left, spot, square, kind):
    """Whether with kind at square the other SQUARES of spot can have KINDS left that fit, as a STEP asks it."""
    if len(spot) == 1:
        return kind == 0 or partner(square, kind) in room
    rows = [[kind] if own == square else left[own] for own in spot]
    for kinds in itertools.product(*rows):
        table = dict(zip(spot, kinds))
        if all(two_fit(a, table[a], b, table[b]) for a, b in pairs(spot)):
            if len(spot) == 2 or point_fits(spot[3], table):
                return True
    return False


def steps_there(room, lets):
    """All STEPS that can be done behind lets, a dict of the KINDS left."""
    return [(square, kind, spot) for spot in spots(room) for square in spot for kind in lets[square]
            if not spot_can_stand(room, lets, spot, square, kind)]


def rounds(room, lets, chance):
    """What ROUNDS leave, done in an order told by chance, and the STEPS done."""
    left = {square: list(range(5)) for square in room}
    left.update({square: list(kinds) for square, kinds in lets})
    done = []
    while True:
        there = steps_there(room, left)
        if not there:
            return tuple((square, tuple(left[square])) for square in room), tuple(done)
        step = chance.choice(there)
        left[step[0]].remove(step[1])
        done.append(step)


def boxed(high, wide):
    return tuple((x, y) for x in range(wide) for y in range(high))


def parts_of(room, least=1):
    """All ROOMS of so many of the SQUARES of room, or more."""
    return [part for many in range(least, len(room) + 1) for part in itertools.combinations(room, many)]


TINY_ROOMS = parts_of(boxed(2, 3)) + parts_of(boxed(3, 2))[::3] + parts_of(boxed(1, 4))

SMALL_ROOMS = TINY_ROOMS + [
    boxed(3, 3), boxed(2, 4), boxed(4, 2), boxed(1, 7), boxed(7, 1),
    tuple(s for s in boxed(3, 3) if s != (1, 1)),
    tuple(s for s in boxed(3, 3) if s != (0, 0)),
    tuple(s for s in boxed(3, 3) if s not in ((0, 0), (2, 2))),
    ((0, 0), (0, 1), (1, 0), (1, 1), (2, 2), (2, 3), (3, 2), (3, 3)),
    ((0, 0), (0, 1), (5, 7), (6, 7), (6, 8)),
    ((3, 2), (3, 3), (4, 3), (5, 2), (5, 3), (5, 4)),
    ((60, 60),), ((7, 0),), ((0, 9), (1, 9)),
]

WIDER_ROOMS = [
    boxed(3, 4), boxed(4, 3), boxed(2, 5),
    tuple(s for s in boxed(4, 4) if s not in ((0, 0), (3, 0), (0, 3), (3, 3))),
    tuple(s for s in boxed(4, 3) if s != (2, 3)),
    tuple(sorted(boxed(3, 3) + ((3, 1), (4, 1)))),
]


def grown_room(chance, many):
    """A ROOM of so many SQUARES that hang together, more or less lumpy, far from 0 or near."""
    found = {(chance.randrange(20), chance.randrange(20))}
    lump = chance.random() < 0.7
    while len(found) < many:
        x, y = chance.choice(sorted(found))
        ways = [(0, 0)] + EIGHT if lump else list(WAYS.values())
        for i, j in ways if lump else [chance.choice(ways)]:
            if len(found) < many and x + i >= 0 and y + j >= 0:
                found.add((x + i, y + j))
    return tuple(sorted(found))


def low_room(chance, many):
    """A ROOM of so many SQUARES, with pillars and in pieces, no COLUMN of which has more than 7."""
    wide = 1 + many // 5
    squares = [(x, y) for x in range(wide) for y in range(7)]
    east, south = chance.randrange(20), chance.randrange(20)
    return tuple(sorted((x + east, y + south) for x, y in chance.sample(squares, min(many, len(squares)))))


def some_lets(chance, room):
    """LETS of room, told by chance."""
    named = [square for square in room if chance.random() < 0.5]
    return tuple((square, tuple(k for k in range(5) if chance.random() < 0.6)) for square in named)


def kept_by(floors, room, lets):
    """Those of floors that keep lets."""
    table = dict(lets)
    return [floor for floor in floors
            if all(kind in table.get(square, range(5)) for square, kind in zip(room, floor))]


def long_cross(many):
    """A ROOM with so many SQUARES in one COLUMN and in one row, no two beside one another."""
    return tuple(sorted({(0, y) for y in range(0, 2 * many, 2)} | {(x, 0) for x in range(0, 2 * many, 2)}))


TRIAL_ROOMS = TINY_ROOMS[::4] + SMALL_ROOMS[-14:] + WIDER_ROOMS


@functools.cache
def floors_of(room):
    """All FLOORS of room, gone through once alone."""
    return tuple(floors(room))


def trials(number, many):
    """Triples of a ROOM, LETS of it, told by chance, the same ones each time, and the FLOORS that keep them."""
    chance = seeded(number)
    found = []
    for room in TRIAL_ROOMS:
        for lets in [(), ((room[0], ()),)] + [some_lets(chance, room) for _ in range(many)]:
            found.append((room, lets, kept_by(floors_of(room), room, lets)))
    return found


def seeded(number):
    return random.Random(number)


def listed(value):
    """Value with lists in the place of tuples, and tuples in that of lists, at any depth."""
    if isinstance(value, tuple):
        return [listed(item) for item in value]
    if isinstance(value, list):
        return tuple(listed(item) for item in value)
    return value
