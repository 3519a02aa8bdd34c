"""All FLOORS of a ROOM with KINDS that are let, COLUMN by COLUMN from the west, by what a ROW tells the next one.

Behind a ROW it is enough to know which SQUARES are joined east, and which two are joined south: its *profile*,
the pair (east, south) of numbers with a bit for each y. A ROW fits behind a profile if just the SQUARES west of
those that it joins west are joined east there, and if the two at each POINT where it joins nothing itself are
joined south there: its *group* is the pair (west, need) of such numbers.

Counted are FLOORS, or, if bits is above 0, FLOORS by half mats: a number then has so many bits for those with no
half mat, so many next ones for those with one, and so on. So one sum adds up all of them at once.
"""

from tatamirooms.grid import EAST, NORTH, SOUTH, WEST, kinds_in, points_of, table_of


def rows_of(squares):
    """The list, ascending, of (ROW, west, east, south), of a COLUMN of triples (bit, kinds, whether it hangs)."""
    found = [((), 0, 0, 0)]
    for bit, kinds, hangs in squares:
        free = [(kind, bit * (kind == WEST), bit * (kind == EAST), bit * (kind == SOUTH))
                for kind in kinds if kind != NORTH]
        grown = []
        for row, west, east, south in found:
            if hangs and row[-1] == SOUTH:
                if NORTH in kinds:
                    grown.append((row + (NORTH,), west, east, south))
            else:
                for kind, more_west, more_east, more_south in free:
                    grown.append((row + (kind,), west | more_west, east | more_east, south | more_south))
        found = grown
    return found


class Column:
    """The ROWS that fit in themselves in a COLUMN, with their groups and profiles.

    rows are triples (ROW, group, place of its profile); groups has for each group the places of the profiles of
    its ROWS; followers has for each west the triples (ROW, need, place of its profile), all ascending.
    """

    def __init__(self, squares, between):
        self.size = len(squares)
        self.rows = []
        self.groups = {}
        self.profiles = []
        self.followers = {}
        self.free = []
        self.wests = {}
        places = {}
        for row, west, east, south in rows_of(squares):
            need = between & ~(south | west | west >> 1)
            if (east, south) not in places:
                places[east, south] = len(self.profiles)
                self.profiles.append((east, south))
                self.free.append(len(row) - row.count(EAST) - 2 * row.count(SOUTH))
            at = places[east, south]
            self.wests[west] = row.count(WEST)
            self.rows.append((row, (west, need), at))
            self.groups.setdefault((west, need), []).append(at)
            self.followers.setdefault(west, []).append((row, need, at))

    def behind(self, profile):
        """The list, ascending, of the pairs (ROW, place of its profile) that fit behind profile."""
        east, south = profile
        return [(row, at) for row, need, at in self.followers.get(east, []) if need & ~south == 0]

    def needs(self, worth, bits):
        """For each west the pairs (need, how many), where worth tells how many there are behind each profile."""
        # A profile counts the SQUARES that it leaves as half mats, those joined west too, till they are known.
        shifted = [many << bits * free for many, free in zip(worth, self.free)]
        found = {}
        for (west, need), places in self.groups.items():
            many = sum([shifted[at] for at in places]) >> bits * self.wests[west]
            if many:
                found.setdefault(west, []).append((need, many))
        return found


def columns_of(room, remains):
    """The list of the Columns of room, from the west; remains is a dict of the KINDS let at each SQUARE."""
    own = table_of(room)
    ys = sorted(set([y for _, y in room]))
    bits = {number: 1 << at for at, number in enumerate(ys)}
    between = {x: 0 for x, _ in room}
    for x, y in points_of(room):
        between[x] |= bits[y - 1]
    squares = {x: [] for x, _ in room}
    for x, y in room:
        kinds = tuple([kind for kind in kinds_in(own, (x, y)) if kind in remains[x, y]])
        squares[x].append((bits[y], kinds, (x, y - 1) in own))
    # Most COLUMNS of a great ROOM are alike, and one Column serves for all of them.
    made = {}
    found = []
    for x in squares:
        told = (tuple(squares[x]), between[x])
        if told not in made:
            made[told] = Column(squares[x], between[x])
        found.append(made[told])
    return found


def worths_of(columns, bits):
    """For each COLUMN the list, by profile, in how many ways those behind it can be laid; ahead, that of all."""
    needs = {0: [(0, 1)]}
    found = []
    for column in reversed(columns):
        worth = [sum([many for need, many in needs.get(east, []) if need & ~south == 0])
                 for east, south in column.profiles]
        found.append(worth)
        needs = column.needs(worth, bits)
    found.append([sum([many for _, many in needs.get(0, [])])])
    return found[::-1]


def totals_of(columns):
    """For each COLUMN a dict, by group, in how many ways those ahead of it can be laid."""
    souths = {0: [(0, 1)]}
    found = []
    for column in columns:
        totals = {}
        grown = [0] * len(column.profiles)
        for (west, need), places in column.groups.items():
            many = sum([held for south, held in souths.get(west, []) if need & ~south == 0])
            totals[west, need] = many
            if many:
                for at in places:
                    grown[at] += many
        found.append(totals)
        souths = {}
        for (east, south), many in zip(column.profiles, grown):
            if many:
                souths.setdefault(east, []).append((south, many))
    return found
