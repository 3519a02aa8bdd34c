"""COLUMNS of a ROOM, their ROWS, and the REACHES of LETS."""

from tatamirooms.grid import east_fit, four_fit, let_table
from tatamirooms.passage import Passage, check_columns
from tatamirooms.plain import need_kinds, need_lets, need_number, need_room
from tatamirooms.transfer import columns_of, totals_of


def squares_at(room, x):
    """The COLUMN at x, of plain values."""
    return tuple([square for square in room if square[0] == x])


def xs_of(room):
    """The list, ascending, of the xs at which room has SQUARES."""
    return sorted(set([x for x, _ in room]))


def sets_of(room, lets):
    """A dict, by x, of the sets of REACHES of lets, of COLUMNS with SQUARES."""
    columns = columns_of(room, let_table(room, lets))
    found = {}
    for x, own, totals in zip(xs_of(room), columns, totals_of(columns)):
        found[x] = tuple([row for row, group, _ in own.rows if totals[group]])
    return found


def reaches_of(room, lets):
    """REACHES of lets, of plain values."""
    sets = sets_of(room, lets)
    found = []
    last = ((),)
    for x in range(room[0][0], room[-1][0] + 1):
        # A COLUMN without SQUARES has the ROW () behind any ROW, and none where nothing stands ahead.
        last = sets.get(x, ((),) if last else ())
        found.append(last)
    return tuple(found)


def read_columns(room, lets):
    """The ROOM and its LETS that these are, else Unfit(); TooMany() if a COLUMN is too long."""
    room = need_room(room)
    lets = need_lets(room, lets)
    check_columns(room)
    return room, lets


def column(room, x):
    """The COLUMN at x."""
    room = need_room(room)
    return squares_at(room, need_number(x))


def rows_at(room, lets, x):
    """The set of the ROWS of the COLUMN at x that fit in themselves and keep lets."""
    room = need_room(room)
    lets, x = need_lets(room, lets), need_number(x)
    check_columns(room)
    if x not in xs_of(room):
        return ((),)
    own = columns_of(room, let_table(room, lets))[xs_of(room).index(x)]
    return tuple([row for row, _, _ in own.rows])


def fit_behind(room, x, ahead, row):
    """Whether SQUARES of the COLUMNS at x - 1 and at x beside one another fit, and the POINTS between both."""
    room, x = need_room(room), need_number(x)
    west, east = squares_at(room, x - 1), squares_at(room, x)
    ahead, row = need_kinds(ahead, len(west)), need_kinds(row, len(east))
    western = {y: kind for (_, y), kind in zip(west, ahead)}
    eastern = {y: kind for (_, y), kind in zip(east, row)}
    sides = [y for y in eastern if y in western]
    corners = [y for y in sides if y + 1 in eastern and y + 1 in western]
    return (all([east_fit(western[y], eastern[y]) for y in sides])
            and all([four_fit((western[y], western[y + 1], eastern[y], eastern[y + 1])) for y in corners]))


def reaches(room, lets):
    """REACHES of lets."""
    room, lets = read_columns(room, lets)
    return reaches_of(room, lets)


def same_told(wanted, thing):
    """Whether thing is wanted, with no list in the place of a tuple, nor True in that of a number."""
    # Once both are equal, only the words of what is told tell True from 1.
    return thing == wanted and repr(thing) == repr(wanted)


def is_reaches(room, lets, thing):
    """Whether thing is REACHES of lets."""
    return same_told(reaches(room, lets), thing)


def is_shut(room, lets):
    """Whether REACHES of lets are shut."""
    return reaches(room, lets)[-1] == ()


def how_far(room, lets):
    """How many sets of REACHES of lets are not ()."""
    return len([rows for rows in reaches(room, lets) if rows])


def rows_left(room, lets, x):
    """The set of the ROWS of the COLUMN at x that FLOORS have there that keep lets."""
    room = need_room(room)
    lets, x = need_lets(room, lets), need_number(x)
    check_columns(room)
    passage = Passage(room, let_table(room, lets))
    if x not in xs_of(room):
        return ((),) if passage.many() else ()
    return tuple([row for row, _ in passage.rows_many()[xs_of(room).index(x)]])
