"""All FLOORS with given KINDS, SQUARE by SQUARE, by what the SQUARES still needed leave to the next ones.

Of a SQUARE that stands ahead it is enough to know whether it is joined east, south, or neither: its mark.
A layer is a dict: for each state (the marks of the SQUARES still needed) the pairs (KIND, state behind it).
"""

from tatamirooms.grid import EAST, NORTH, SOUTH, WEST, kinds_in, pushed, table_of

ACROSS = (0, 2, 1, 4, 3)


def last_needs(room):
    """For each SQUARE the place of the last SQUARE of room that is beside it, or about a POINT with it."""
    places = {square: at for at, square in enumerate(room)}
    found = {}
    for square in room:
        behind = [square] + pushed(square, ((0, 1), (1, 0), (1, 1)))
        found[square] = max([places[other] for other in behind if other in places])
    return found


def kinds_behind(marks, square, kinds):
    """Those of kinds that fit at square behind the SQUARES with marks."""
    x, y = square
    west, north, corner = marks.get((x - 1, y)), marks.get((x, y - 1)), marks.get((x - 1, y - 1))
    if corner == 0 and west is not None and north is not None and west != EAST and north != SOUTH:
        return []
    return [kind for kind in kinds if (kind == WEST) == (west == EAST) and (kind == NORTH) == (north == SOUTH)]


def layer_of(states, live, square, kinds, kept):
    """The layer of square: live are the SQUARES of the states ahead of it, kept those of the states behind it."""
    layer = {}
    for state in states:
        marks = dict(zip(live, state))
        fit = kinds_behind(marks, square, kinds)
        found = []
        for kind in fit:
            marks[square] = kind if kind in (EAST, SOUTH) else 0
            found.append((kind, tuple([marks[own] for own in kept])))
        layer[state] = found
    return layer


def layers_of(room, remains):
    """The list of the layers, one for each SQUARE, where remains is a dict of the KINDS that are let at each."""
    last = last_needs(room)
    own = table_of(room)
    live = []
    states = [()]
    layers = []
    for at, square in enumerate(room):
        kept = [other for other in live + [square] if last[other] > at]
        kinds = [kind for kind in kinds_in(own, square) if kind in remains[square]]
        layer = layer_of(states, live, square, kinds, kept)
        layers.append(layer)
        states = sorted(set([state for row in list(layer.values()) for _, state in row]))
        live = kept
    return layers


def many_behind(layers):
    """For each layer a dict, of each state in how many ways the layers from there on can be gone through."""
    many = {(): 1}
    found = [many]
    for layer in reversed(layers):
        ahead = {}
        for state, row in layer.items():
            ahead[state] = sum([many[behind] for _, behind in row])
        found.append(ahead)
        many = ahead
    return found[::-1]


def laid_through(layers, many):
    """The list, ascending, of the tuples of KINDS by which all layers can be gone through."""
    grown = [((), ())]
    for at, layer in enumerate(layers):
        behind = many[at + 1]
        grown = [(state, laid + (kind,)) for ahead, laid in grown for kind, state in layer[ahead] if behind[state]]
    return [laid for _, laid in grown]


def most_alike(numbers):
    """How often that one of numbers stands there that stands there most often."""
    many = {number: 0 for number in numbers}
    for number in numbers:
        many[number] += 1
    return max(list(many.values()), default=0)


def width(room, remains):
    """The greatest number of SQUARES with one x for which remains lets several KINDS."""
    return most_alike([square[0] for square in room if len(remains[square]) > 1])


def floors_along(room, remains, most):
    """The list of the FLOORS with KINDS of remains, ascending; None if they are more than most."""
    layers = layers_of(room, remains)
    many = many_behind(layers)
    if many[0][()] > most:
        return None
    return laid_through(layers, many) if many[0][()] else []


def floors_kept(room, remains, most):
    """As floors_along, but gone through along that axis along which it is less work."""
    across = tuple(sorted([(y, x) for x, y in room]))
    turned = {(y, x): tuple(sorted([ACROSS[kind] for kind in remains[x, y]])) for x, y in room}
    if width(room, remains) <= width(across, turned):
        return floors_along(room, remains, most)
    floors = floors_along(across, turned, most)
    if floors is None:
        return None
    tables = [dict(zip(across, laid)) for laid in floors]
    return sorted([tuple([ACROSS[laid[y, x]] for x, y in room]) for laid in tables])
