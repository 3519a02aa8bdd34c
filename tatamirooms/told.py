"""What LETS tell already: FLOORS that keep them, what all of these have, or why there is none."""

from tatamirooms.columns import reaches_of, same_told
from tatamirooms.errors import CanNot
from tatamirooms.floors import mat_on, plain_floor
from tatamirooms.grid import keeps, let_table
from tatamirooms.passage import Passage, check_columns
from tatamirooms.plain import (
    as_told, check_square, need_kind, need_lets, need_pair, need_room)


def passage_with(room, lets):
    """The FLOORS of room that keep lets, gone through; TooMany() if a COLUMN is too long."""
    room = need_room(room)
    lets = need_lets(room, lets)
    check_columns(room)
    return Passage(room, let_table(room, lets))


def some_passage(room, lets):
    """As passage_with; CanNot() if no FLOOR keeps lets."""
    passage = passage_with(room, lets)
    if not passage.many():
        raise CanNot()
    return passage


def can_finish(room, lets):
    """Whether some FLOOR keeps lets."""
    return passage_with(room, lets).many() > 0


def finished(room, lets):
    """A FLOOR that keeps lets; CanNot() if there is none."""
    return least_finished(room, lets)


def least_finished(room, lets):
    """The least FLOOR that keeps lets; CanNot() if there is none."""
    return some_passage(room, lets).floor(0)


def greatest_finished(room, lets):
    """The greatest FLOOR that keeps lets; CanNot() if there is none."""
    passage = some_passage(room, lets)
    return passage.floor(passage.many() - 1)


def is_finished(room, lets, thing):
    """Whether thing is a FLOOR that keeps lets."""
    room = need_room(room)
    lets = need_lets(room, lets)
    floor = plain_floor(room, thing)
    return as_told(floor, thing) and keeps(room, lets, floor)


def can_be(room, lets):
    """The LETS that name each SQUARE with the KINDS that FLOORS have there that keep lets; CanNot() without."""
    passage = some_passage(room, lets)
    seen = passage.kinds_seen()
    return tuple([(square, seen[square]) for square in passage.squares])


def sure(room, lets):
    """The set of the pairs (square, kind) that all FLOORS have that keep lets; CanNot() if none does."""
    return tuple([(square, kinds[0]) for square, kinds in can_be(room, lets) if len(kinds) == 1])


def sure_mats(room, lets):
    """The set of the MATS that lie in all FLOORS that keep lets; CanNot() if none does."""
    return tuple(sorted(set([mat_on(square, kind) for square, kind in sure(room, lets)])))


def is_sure(room, lets, square, kind):
    """Whether all FLOORS that keep lets have kind at square."""
    room = need_room(room)
    lets, square, kind = need_lets(room, lets), need_pair(square), need_kind(kind)
    check_square(room, square)
    check_columns(room)
    remains = let_table(room, lets)
    remains[square] = tuple([own for own in remains[square] if own != kind])
    return Passage(room, remains).many() == 0


def shut_reaches(room, lets):
    """REACHES of lets if they are shut, else None."""
    room = need_room(room)
    lets = need_lets(room, lets)
    check_columns(room)
    found = reaches_of(room, lets)
    return found if found[-1] == () else None


def why_not(room, lets):
    """The REACHES of lets; CanNot() if some FLOOR keeps lets."""
    found = shut_reaches(room, lets)
    if found is None:
        raise CanNot()
    return found


def is_why_not(room, lets, thing):
    """Whether thing are the REACHES of lets, and these are shut."""
    found = shut_reaches(room, lets)
    return found is not None and same_told(found, thing)
