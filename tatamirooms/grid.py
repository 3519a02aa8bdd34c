"""SQUARES, POINTS, spots, and what fits, told of plain values that were read already."""

EAST = 1
SOUTH = 2
WEST = 3
NORTH = 4
ALL_KINDS = (0, 1, 2, 3, 4)
TOWARD = ((0, 0), (1, 0), (0, 1), (-1, 0), (0, -1))
BACK = (0, 3, 4, 1, 2)
SIDES = ((-1, 0), (0, -1), (0, 1), (1, 0))
AROUND = ((-1, -1), (-1, 0), (-1, 1), (0, -1), (0, 1), (1, -1), (1, 0), (1, 1))


def pushed(square, ways):
    """The pairs of numbers to which each of ways leads from square."""
    x, y = square
    return [(x + i, y + j) for i, j in ways]


def within(room, pairs):
    """The tuple of those pairs that are SQUARES of room."""
    return tuple([pair for pair in pairs if pair in room])


def toward(square, kind):
    """The pair of numbers with which kind joins square."""
    return square[0] + TOWARD[kind][0], square[1] + TOWARD[kind][1]


def table_of(room):
    """A dict of the SQUARES of room, in which one is found at once, however many there are."""
    return {square: True for square in room}


def inner_of(room):
    """The set of the inner SQUARES: those all four corners of which are POINTS."""
    points = table_of(points_of(room))
    return tuple([(x, y) for x, y in room if (x, y) in points and (x + 1, y) in points
                  and (x, y + 1) in points and (x + 1, y + 1) in points])


def rim_of(room):
    """The set of the SQUARES of the RIM."""
    held = table_of(inner_of(room))
    return tuple([square for square in room if square not in held])


def four_about(point):
    """The four pairs of numbers about point: northwest, southwest, northeast, southeast."""
    x, y = point
    return ((x - 1, y - 1), (x - 1, y), (x, y - 1), (x, y))


def points_of(room):
    """The set of the POINTS; each stands where the SQUARE southeast of it does."""
    own = table_of(room)
    return tuple([(x, y) for x, y in room if (x - 1, y) in own and (x, y - 1) in own and (x - 1, y - 1) in own])


def pairs_of(room):
    """The list of all two SQUARES beside one another, each two ascending."""
    own = table_of(room)
    return [(square, other) for square in room for other in pushed(square, ((0, 1), (1, 0))) if other in own]


def spots_of(room):
    """The set of all spots."""
    singles = [(square,) for square in room]
    fours = [four_about(point) for point in points_of(room)]
    return tuple(sorted(singles + pairs_of(room) + fours))


def spots_with(room, square):
    """The set of the spots that have square; all of each lies around it."""
    near = tuple(sorted([square] + list(within(room, pushed(square, AROUND)))))
    return tuple([spot for spot in spots_of(near) if square in spot])


def east_fit(kind, other):
    """Whether kind and, east of it, other fit."""
    return (kind == EAST) == (other == WEST)


def south_fit(kind, other):
    """Whether kind and, south of it, other fit."""
    return (kind == SOUTH) == (other == NORTH)


def four_fit(kinds):
    """Whether a POINT fits, by the KINDS about it: northwest, southwest, northeast, southeast."""
    northwest, southwest, northeast, southeast = kinds
    lying = (northwest, northeast) == (EAST, WEST) or (southwest, southeast) == (EAST, WEST)
    standing = (northwest, southwest) == (SOUTH, NORTH) or (northeast, southeast) == (SOUTH, NORTH)
    return lying or standing


def side_fit(spot, kinds):
    """Whether the KINDS of a spot of two fit."""
    if spot[0][0] == spot[1][0]:
        return south_fit(kinds[0], kinds[1])
    return east_fit(kinds[0], kinds[1])


def stays(room, square, kind):
    """Whether kind at square is 0 or joins it with a SQUARE of room."""
    return toward(square, kind) in room


def spot_fits(room, spot, kinds):
    """Whether the KINDS of the SQUARES of spot fit, as [6] tells it."""
    if len(spot) == 1:
        return stays(room, spot[0], kinds[0])
    if len(spot) == 2:
        return side_fit(spot, kinds)
    return four_fit(kinds)


def flaws_of(room, laid):
    """The set of the spots at which laid does not fit."""
    kinds = dict(zip(room, laid))
    return tuple([spot for spot in spots_of(room)
                  if not spot_fits(kinds, spot, [kinds[square] for square in spot])])


def is_whole(room, laid):
    """Whether laid is a FLOOR: as flaws_of, but told SQUARE by SQUARE, and without a list of the flaws."""
    kinds = dict(zip(room, laid))
    for (x, y), kind in kinds.items():
        if kind and kinds.get(toward((x, y), kind)) != BACK[kind]:
            return False
        if (x - 1, y) in kinds and (x, y - 1) in kinds and (x - 1, y - 1) in kinds:
            if not four_fit((kinds[x - 1, y - 1], kinds[x - 1, y], kinds[x, y - 1], kind)):
                return False
    return True


def kinds_in(room, square):
    """The set of the KINDS that fit at square alone."""
    return tuple([kind for kind in range(5) if stays(room, square, kind)])


def let_table(room, lets):
    """A dict of the KINDS that lets let at each SQUARE of room."""
    remains = {square: ALL_KINDS for square in room}
    for square, kinds in lets:
        remains[square] = kinds
    return remains


def keeps(room, lets, floor):
    """Whether floor has at each SQUARE that lets name one of its KINDS."""
    laid = dict(zip(room, floor))
    return all([laid[square] in kinds for square, kinds in lets])
