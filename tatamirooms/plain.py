"""What is handed in, read: plain tuples in the place of lists, or None for what is not as told.

A value is as told, without lists, exactly if it equals what is read of it: no list equals a tuple.
"""

from tatamirooms.errors import NoSquare, Unfit


def is_number(value):
    """Whether value is an int that is not a bool."""
    return isinstance(value, int) and not isinstance(value, bool)


def needed(plain):
    """What was read, Unfit() if it was not as told."""
    if plain is None:
        raise Unfit()
    return plain


def as_told(plain, thing):
    """Whether thing, of which plain was read, is as told without lists in the place of tuples."""
    return plain is not None and plain == thing


def plain_number(value, least, most=None):
    """A number from least to most, or from least on."""
    if not is_number(value) or value < least or (most is not None and value > most):
        return None
    return value


def plain_kind(value):
    """A KIND."""
    return plain_number(value, 0, 4)


def plain_move(value):
    """A MOVE."""
    return plain_number(value, 0, 7)


def plain_pair(value):
    """A pair of numbers."""
    if not isinstance(value, (list, tuple)) or len(value) != 2:
        return None
    x, y = value
    return (x, y) if is_number(x) and is_number(y) else None


def plain_square(value):
    """A SQUARE of any ROOM."""
    pair = plain_pair(value)
    if pair is None or pair[0] < 0 or pair[1] < 0:
        return None
    return pair


def plain_items(value, read):
    """A tuple of what read makes of each item of a list or a tuple."""
    if not isinstance(value, (list, tuple)):
        return None
    found = [read(item) for item in value]
    return None if None in found else tuple(found)


def plain_set(value, read):
    """An ascending tuple of what read makes of each item."""
    items = plain_items(value, read)
    if items is None or any([items[at] >= items[at + 1] for at in range(len(items) - 1)]):
        return None
    return items


def plain_pairs(value):
    """A tuple of pairs of numbers, in whatever order."""
    return plain_items(value, plain_pair)


def plain_room(value):
    """A ROOM."""
    return plain_set(value, plain_square) or None


def plain_kinds(value, many):
    """A tuple of so many KINDS."""
    if not isinstance(value, (list, tuple)) or len(value) != many:
        return None
    return tuple(value) if all([is_number(kind) and 0 <= kind <= 4 for kind in value]) else None


def plain_let(value):
    """A pair (square, kinds) as LETS have it, of whatever room."""
    if not isinstance(value, (list, tuple)) or len(value) != 2:
        return None
    square = plain_pair(value[0])
    kinds = plain_set(value[1], plain_kind)
    if square is None or kinds is None:
        return None
    return square, kinds


def plain_lets(room, value):
    """LETS of a ROOM."""
    lets = plain_set(value, plain_let)
    if lets is None:
        return None
    named = {square: True for square, _ in lets}
    own = {square: True for square in room}
    if len(named) != len(lets) or not all([square in own for square in named]):
        return None
    return lets


def plain_squares(room, value):
    """A set of SQUARES of a ROOM."""
    squares = plain_set(value, plain_pair)
    if squares is None or not all([square in room for square in squares]):
        return None
    return squares


def need_room(value):
    """The ROOM that value is, else Unfit()."""
    return needed(plain_room(value))


def need_number(value):
    """The number that value is, else Unfit()."""
    return needed(value if is_number(value) else None)


def need_from(value, least):
    """The number from least on that value is, else Unfit()."""
    return needed(plain_number(value, least))


def need_pair(value):
    """The pair of numbers that value is, else Unfit()."""
    return needed(plain_pair(value))


def need_kind(value):
    """The KIND that value is, else Unfit()."""
    return needed(plain_kind(value))


def need_kinds(value, many):
    """The tuple of so many KINDS that value is, else Unfit()."""
    return needed(plain_kinds(value, many))


def need_lets(room, value):
    """The LETS of room that value is, else Unfit()."""
    return needed(plain_lets(room, value))


def check_square(room, square):
    """NoSquare(square) for a pair of numbers that is none of room."""
    if square not in room:
        raise NoSquare(square)
