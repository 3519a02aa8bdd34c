"""STEPS that strike what cannot be, and ROUNDS of them."""

from tatamirooms.errors import CanNot
from tatamirooms.grid import four_fit, kinds_in, side_fit, spots_of, spots_with, table_of
from tatamirooms.plain import (
    as_told, check_square, need_kind, need_lets, need_pair, need_room, needed,
    plain_items, plain_kind, plain_pair, plain_pairs)

ALL_KINDS = (0, 1, 2, 3, 4)
STANDING = ((0, 0), (0, 1))
LYING = ((0, 0), (1, 0))


def side_ways(spot):
    """The list of the KINDS of a spot of two with which it fits."""
    return [(kind, other) for kind in ALL_KINDS for other in ALL_KINDS if side_fit(spot, (kind, other))]


def four_ways():
    """The list of the KINDS of the four about a POINT with which it fits, and each two beside one another."""
    columns = side_ways(STANDING)
    rows = table_of(side_ways(LYING))
    found = [west + east for west in columns for east in columns if four_fit(west + east)]
    return [way for way in found if (way[0], way[2]) in rows and (way[1], way[3]) in rows]


def shape_of(spot):
    """What tells the ways of a spot of two or four: its size, and whether all of it has one x."""
    return len(spot), spot[0][0] == spot[-1][0]


def all_ways():
    """A dict of the lists of the KINDS, by shape, with which spots of two and four let one another stand."""
    return {(2, True): side_ways(STANDING), (2, False): side_ways(LYING), (4, False): four_ways()}


def ways_at(room, spot, ways):
    """The list of the KINDS of the SQUARES of spot with which it lets them stand."""
    if len(spot) == 1:
        return [(kind,) for kind in kinds_in(room, spot[0])]
    return ways[shape_of(spot)]


def ways_let(ways, rows):
    """Those of ways that have for each SQUARE one of the KINDS that stand in its row."""
    return [way for way in ways if all([kind in row for kind, row in zip(way, rows)])]


def is_against(room, remains, ways, spot, square, kind):
    """Whether with kind at square the other SQUARES of spot can have no KINDS of remains that fit."""
    rows = [(kind,) if own == square else remains[own] for own in spot]
    return not ways_let(ways_at(room, spot, ways), rows)


def let_table(room, lets):
    """A dict of the KINDS that lets let at each SQUARE of room."""
    remains = {square: ALL_KINDS for square in room}
    for square, kinds in lets:
        remains[square] = kinds
    return remains


def strike(remains, square, kind):
    """Strikes kind at square in remains."""
    remains[square] = tuple([own for own in remains[square] if own != kind])


def steps_at(remains, ways, spot):
    """The list of the STEPS that spot, of which ways are given, gives behind remains, one after another."""
    rows = [remains[square] for square in spot]
    standing = ways_let(ways, rows)
    found = []
    for at, square in enumerate(spot):
        held = [way[at] for way in standing]
        found = found + [(square, kind, spot) for kind in rows[at] if kind not in held]
    return found


def rounds(room, remains):
    """ROUNDS, as the list of their STEPS; what they strike is struck in remains."""
    ways = all_ways()
    own = table_of(room)
    waiting = list(spots_of(room))
    near = {square: [] for square in room}
    for spot in waiting:
        for square in spot:
            near[square].append(spot)
    queued = table_of(waiting)
    done = []
    while waiting:
        spot = waiting.pop()
        queued[spot] = False
        found = steps_at(remains, ways_at(own, spot, ways), spot)
        done.extend(found)
        for square, kind, _ in found:
            strike(remains, square, kind)
            again = [other for other in near[square] if not queued[other]]
            for other in again:
                queued[other] = True
            waiting.extend(again)
    return done


def plain_step(value):
    """A triple (square, kind, spot) as STEPS have it, of whatever room."""
    if not isinstance(value, (list, tuple)) or len(value) != 3:
        return None
    square, kind, spot = plain_pair(value[0]), plain_kind(value[1]), plain_pairs(value[2])
    if square is None or kind is None or spot is None:
        return None
    return square, kind, spot


def left_behind(room, lets, told):
    """A dict of the KINDS that told leave at each SQUARE; None if told are no STEPS of lets."""
    ways = all_ways()
    own = table_of(room)
    remains = let_table(room, lets)
    for square, kind, spot in told:
        if square not in own or kind not in remains[square] or spot not in spots_with(room, square):
            return None
        if not is_against(own, remains, ways, spot, square, kind):
            return None
        strike(remains, square, kind)
    return remains


def plain_steps(room, lets, value):
    """STEPS of lets, read; None for what are none."""
    told = plain_items(value, plain_step)
    if told is None or left_behind(room, lets, told) is None:
        return None
    return told


def rounds_left(room, lets):
    """A dict of the KINDS that ROUNDS of lets leave at each SQUARE."""
    remains = let_table(room, lets)
    rounds(room, remains)
    return remains


def spots_against(room, lets, square, kind):
    """The set of the spots that would strike kind at square behind lets alone."""
    room = need_room(room)
    lets, square, kind = need_lets(room, lets), need_pair(square), need_kind(kind)
    check_square(room, square)
    ways = all_ways()
    remains = let_table(room, lets)
    return tuple([spot for spot in spots_with(room, square) if is_against(room, remains, ways, spot, square, kind)])


def steps(room, lets):
    """ROUNDS of lets, as STEPS."""
    room = need_room(room)
    return tuple(rounds(room, let_table(room, need_lets(room, lets))))


def is_steps(room, lets, thing):
    """Whether thing is STEPS of lets, all of ROUNDS or not."""
    room = need_room(room)
    return as_told(plain_steps(room, need_lets(room, lets), thing), thing)


def as_lets(room, remains):
    """LETS that name each SQUARE, with its KINDS in remains."""
    return tuple([(square, remains[square]) for square in room])


def left_by(room, lets, steps):
    """What STEPS of lets leave, as LETS that name each SQUARE."""
    room = need_room(room)
    lets = need_lets(room, lets)
    told = needed(plain_steps(room, lets, steps))
    return as_lets(room, left_behind(room, lets, told))


def left(room, lets):
    """What ROUNDS of lets leave, as LETS that name each SQUARE."""
    room = need_room(room)
    return as_lets(room, rounds_left(room, need_lets(room, lets)))


def falls(room, lets):
    """Whether ROUNDS of lets leave some SQUARE no KIND."""
    return not all([kinds for _, kinds in left(room, lets)])


def next_sure(room, lets):
    """The least SQUARE that lets do not hold to one KIND, but ROUNDS do, and this KIND; CanNot() without."""
    room = need_room(room)
    lets = need_lets(room, lets)
    told, found = let_table(room, lets), rounds_left(room, lets)
    sure = [square for square in room if len(told[square]) > 1 and len(found[square]) == 1]
    if not sure or not all([found[square] for square in room]):
        raise CanNot()
    return sure[0], found[sure[0]][0]


def all_sure(room, lets):
    """The LETS that name just the SQUARES for which ROUNDS leave one KIND."""
    return tuple([(square, kinds) for square, kinds in left(room, lets) if len(kinds) == 1])
