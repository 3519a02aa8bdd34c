"""Half mats of the FLOORS that keep LETS: the fewest, the most, and where they can lie."""

from tatamirooms.errors import CanNot
from tatamirooms.floors import plain_floor
from tatamirooms.grid import keeps, let_table
from tatamirooms.passage import Passage, check_lines, only
from tatamirooms.plain import as_told, need_lets, need_number, need_room, needed, plain_squares


def counts_of(room, lets):
    """The set of the counts of the FLOORS that keep lets, of plain values; TooMany() if room is too great."""
    check_lines(room)
    passage = Passage(room, let_table(room, lets), by_half=True, either=True)
    return tuple([half for half, _ in passage.halves()])


def counts_needed(room, lets):
    """As counts_of; CanNot() if there is none."""
    found = counts_of(room, lets)
    if not found:
        raise CanNot()
    return found


def halves(room, lets):
    """The set of the counts of the FLOORS that keep lets."""
    room = need_room(room)
    return counts_of(room, need_lets(room, lets))


def fewest_half(room, lets):
    """The least of halves; CanNot() if there is none."""
    room = need_room(room)
    return counts_needed(room, need_lets(room, lets))[0]


def most_half(room, lets):
    """The greatest of halves; CanNot() if there is none."""
    room = need_room(room)
    return counts_needed(room, need_lets(room, lets))[-1]


def with_half(room, lets, number):
    """A FLOOR that keeps lets, with number for its count; CanNot() if there is none."""
    room = need_room(room)
    lets, number = need_lets(room, lets), need_number(number)
    check_lines(room)
    passage = Passage(room, let_table(room, lets), by_half=True, either=True)
    if not passage.many(number):
        raise CanNot()
    return passage.floor(0, number)


def is_with_half(room, lets, number, thing):
    """Whether thing is a FLOOR that keeps lets, with number for its count."""
    room = need_room(room)
    lets, number = need_lets(room, lets), need_number(number)
    check_lines(room)
    floor = plain_floor(room, thing)
    return as_told(floor, thing) and keeps(room, lets, floor) and floor.count(0) == number


def nearest_half(room, lets, number):
    """That one of halves which is nearest to number, of two the lesser one; CanNot() if there is none."""
    room = need_room(room)
    lets, number = need_lets(room, lets), need_number(number)
    return min([(abs(half - number), half) for half in counts_needed(room, lets)])[1]


def can_be_half(room, lets, lot):
    """Whether some FLOOR that keeps lets has half mats at all SQUARES of lot."""
    room = need_room(room)
    lets, lot = need_lets(room, lets), needed(plain_squares(room, lot))
    check_lines(room)
    remains = only(let_table(room, lets), lot, [0] * len(lot))
    return Passage(room, remains, either=True).many() > 0


def never_half(room, lets):
    """The set of the SQUARES at which no FLOOR that keeps lets has a half mat."""
    room = need_room(room)
    lets = need_lets(room, lets)
    check_lines(room)
    seen = Passage(room, let_table(room, lets), either=True).kinds_seen()
    return tuple([square for square in room if 0 not in seen[square]])
