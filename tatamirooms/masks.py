"""ROUNDS over masks: the KINDS left at a SQUARE as one number, with a bit for each of them.

Two SQUARES beside one another fit if both are joined with one another, or neither looks along their side. So the four
about a POINT can have KINDS only if one of their four sides is joined, or two over against one another.
"""

from tatamirooms.grid import ALL_KINDS, table_of

ALL = 31
HALF = 1
EAST = 2
SOUTH = 4
WEST = 8
NORTH = 16
# By these KINDS a SQUARE about a POINT is joined with none of the other three: by HALF, and by the two that lead away.
NORTHWEST_FREE = 25
SOUTHWEST_FREE = 13
NORTHEAST_FREE = 19
SOUTHEAST_FREE = 7


def mask_of(kinds):
    """The mask of a set of KINDS."""
    return sum([1 << kind for kind in kinds])


def kinds_of(mask):
    """The set of the KINDS of a mask."""
    return tuple([kind for kind in ALL_KINDS if mask >> kind & 1])


def let_masks(room, lets):
    """A dict of the masks that lets let at each SQUARE of room."""
    masks = {square: ALL for square in room}
    for square, kinds in lets:
        masks[square] = mask_of(kinds)
    return masks


def room_mask(room, square):
    """The mask of the KINDS that join square with no SQUARE out of room."""
    x, y = square
    east = EAST if (x + 1, y) in room else 0
    south = SOUTH if (x, y + 1) in room else 0
    west = WEST if (x - 1, y) in room else 0
    north = NORTH if (x, y - 1) in room else 0
    return HALF + east + south + west + north


def pair_left(one, other, way, back):
    """What is left of the masks of two SQUARES, where way joins the first with the second, back this with it."""
    joined = one & way and other & back
    apart = one & ~way and other & ~back
    if joined and apart:
        return one, other
    if joined:
        return way, back
    if apart:
        return one & ~way, other & ~back
    return 0, 0


def four_ways(northwest, southwest, northeast, southeast):
    """The list of the ways in which the four about a POINT can stand, each told by what is left of their masks."""
    free_northwest, free_southwest = northwest & NORTHWEST_FREE, southwest & SOUTHWEST_FREE
    free_northeast, free_southeast = northeast & NORTHEAST_FREE, southeast & SOUTHEAST_FREE
    upper, lower = northwest & EAST and northeast & WEST, southwest & EAST and southeast & WEST
    western, eastern = northwest & SOUTH and southwest & NORTH, northeast & SOUTH and southeast & NORTH
    ways = []
    if upper and free_southwest and free_southeast:
        ways.append((EAST, free_southwest, WEST, free_southeast))
    if lower and free_northwest and free_northeast:
        ways.append((free_northwest, EAST, free_northeast, WEST))
    if upper and lower:
        ways.append((EAST, EAST, WEST, WEST))
    if western and free_northeast and free_southeast:
        ways.append((SOUTH, NORTH, free_northeast, free_southeast))
    if eastern and free_northwest and free_southwest:
        ways.append((free_northwest, free_southwest, SOUTH, NORTH))
    if western and eastern:
        ways.append((SOUTH, NORTH, SOUTH, NORTH))
    return ways


def four_left(four):
    """What is left of the masks of the four about a POINT: northwest, southwest, northeast, southeast."""
    northwest = southwest = northeast = southeast = 0
    for way in four_ways(*four):
        northwest |= way[0]
        southwest |= way[1]
        northeast |= way[2]
        southeast |= way[3]
    return northwest, southwest, northeast, southeast


def spot_left(spot, masks):
    """What is left of the masks of the SQUARES of a spot of two or four, all that fits together there."""
    own = [masks[square] for square in spot]
    if len(spot) == 4:
        return four_left(own)
    if spot[0][0] == spot[1][0]:
        return pair_left(own[0], own[1], SOUTH, NORTH)
    return pair_left(own[0], own[1], EAST, WEST)


def spots_near(room):
    """The list of the spots of two and of four, and for each SQUARE the list of the places of those that have it."""
    near = {square: [] for square in room}
    spots = []
    for x, y in room:
        square, south, east, far = (x, y), (x, y + 1), (x + 1, y), (x + 1, y + 1)
        if south in near:
            spots.append((square, south))
        if east in near:
            spots.append((square, east))
            if south in near and far in near:
                spots.append((square, south, east, far))
    for at, spot in enumerate(spots):
        for square in spot:
            near[square].append(at)
    return spots, near


def strike(masks, square, mask, spot):
    """Leaves mask at square; the list of the STEPS by which spot strikes all else there."""
    struck = kinds_of(masks[square] & ~mask)
    masks[square] = mask
    return [(square, kind, spot) for kind in struck]


def out_of_room(room, masks):
    """Strikes the KINDS that join SQUARES out of room; the list of their STEPS."""
    own = table_of(room)
    done = []
    for square in room:
        mask = masks[square] & room_mask(own, square)
        if mask != masks[square]:
            done.extend(strike(masks, square, mask, (square,)))
    return done


def put(waiting, queued, places):
    """Puts those of places behind waiting that do not wait already."""
    for at in places:
        if not queued[at]:
            queued[at] = True
            waiting.append(at)


def rounds(room, masks, whole=True):
    """ROUNDS, as the list of their STEPS; if not whole, only till some SQUARE has no KIND left."""
    done = out_of_room(room, masks)
    if not whole and not all([masks[square] for square in room]):
        return done
    spots, near = spots_near(room)
    waiting = []
    queued = [False] * len(spots)
    for square in reversed(room):
        # Where all KINDS are let to all SQUARES of a spot, it strikes none.
        if masks[square] != ALL:
            put(waiting, queued, near[square])
    while waiting:
        at = waiting.pop()
        spot = spots[at]
        left = spot_left(spot, masks)
        for square, mask in zip(spot, left):
            if mask != masks[square]:
                done.extend(strike(masks, square, mask, spot))
                put(waiting, queued, near[square])
                if not mask and not whole:
                    return done
        queued[at] = False
    return done
