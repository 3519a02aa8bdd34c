"""Shares: how many of all FLOORS of a ROOM have what is asked, and what a FLOOR has in the mean."""

from math import gcd

from tatamirooms.counts import by_half, kinds_many
from tatamirooms.errors import CanNot
from tatamirooms.floors import all_mats, kind_in
from tatamirooms.grid import let_table
from tatamirooms.passage import Passage, check_lines
from tatamirooms.plain import need_kind, need_lets, need_pair, need_room, needed, plain_pairs


def reduced(many, whole):
    """The pair of two numbers without a common divisor that says many over whole."""
    common = gcd(many, whole)
    return many // common, whole // common


def plain_mat(room, value):
    """A MAT whose SQUARES are room's; None for what is none."""
    mat = plain_pairs(value)
    return mat if mat in all_mats(room) else None


def share(room, square, kind):
    """The share of the FLOORS with kind at square."""
    return share_with(room, (), square, kind)


def share_with(room, lets, square, kind):
    """The share of the FLOORS with kind at square, of those that keep lets; CanNot() if none does."""
    room = need_room(room)
    lets, square, kind = need_lets(room, lets), need_pair(square), need_kind(kind)
    numbers = kinds_many(room, lets, square)
    if sum(numbers) == 0:
        raise CanNot()
    return reduced(numbers[kind], sum(numbers))


def mat_share(room, mat):
    """The share of the FLOORS that have this MAT."""
    room = need_room(room)
    mat = needed(plain_mat(room, mat))
    return share(room, mat[0], kind_in(mat[0], mat))


def half_mean(room):
    """How many half mats a FLOOR has in the mean, as a pair: the first number over the second one."""
    pairs = by_half(room, ())
    return reduced(sum([half * many for half, many in pairs]), sum([many for _, many in pairs]))


def mat_mean(room):
    """How many MATS, half mats with them, a FLOOR has in the mean, likewise."""
    pairs = by_half(room, ())
    # Half mats and SQUARES are both even or both odd in number, so no half is lost here.
    mats = sum([(len(room) + half) // 2 * many for half, many in pairs])
    return reduced(mats, sum([many for _, many in pairs]))


def likeliest(room, kind):
    """The pair of the greatest share that kind has at a SQUARE, and the set of the SQUARES where it has this one."""
    room = need_room(room)
    kind = need_kind(kind)
    check_lines(room)
    passage = Passage(room, let_table(room, ()), either=True)
    numbers = passage.kinds_all()
    most = max([numbers[square][kind] for square in room])
    return reduced(most, passage.many()), tuple([square for square in room if numbers[square][kind] == most])


def alike_share(room, square):
    """The share of the pairs of FLOORS, two alike among them, that have the same KIND at square."""
    numbers = kinds_many(room, (), square)
    return reduced(sum([many * many for many in numbers]), sum(numbers) * sum(numbers))
