"""FLOORS of a ROOM with KINDS that are let: how many there are, which one has a number, which ROWS they have."""

from tatamirooms.errors import TooMany
from tatamirooms.transfer import columns_of, totals_of, worths_of

LONGEST_LINE = 7
ACROSS = (0, 2, 1, 4, 3)


def most_alike(numbers):
    """How often that one of numbers stands there that stands there most often."""
    many = {number: 0 for number in numbers}
    for number in numbers:
        many[number] += 1
    return max(list(many.values()), default=0)


def longest_lines(room):
    """How many SQUARES the longest COLUMN of room has, and how many the longest row."""
    return most_alike([x for x, _ in room]), most_alike([y for _, y in room])


def check_columns(room):
    """TooMany() if some COLUMN of room has more than 7 SQUARES."""
    if longest_lines(room)[0] > LONGEST_LINE:
        raise TooMany()


def check_lines(room):
    """TooMany() if some COLUMN of room has more than 7 SQUARES, and some row has, too."""
    if min(longest_lines(room)) > LONGEST_LINE:
        raise TooMany()


def lies_across(room, remains):
    """Whether along the rows of room, of SQUARES with several KINDS left, it is less work than along COLUMNS."""
    down, along = longest_lines([square for square in room if len(remains[square]) > 1])
    return along < down


def turned(room, remains):
    """room and remains with x for y, and KINDS likewise."""
    across = tuple(sorted([(y, x) for x, y in room]))
    return across, {(y, x): tuple(sorted([ACROSS[kind] for kind in remains[x, y]])) for x, y in room}


def floors_turned(room, floors):
    """The list of the FLOORS that those of room become with x for y."""
    order = sorted([((y, x), place) for place, (x, y) in enumerate(room)])
    return [tuple([ACROSS[laid[at]] for _, at in order]) for laid in floors]


def only(remains, squares, kinds):
    """remains, but with no KIND left at each of squares but the one of kinds that is told for it."""
    told = dict(zip(squares, kinds))
    return {square: tuple([kind for kind in own if told.get(square, kind) == kind])
            for square, own in remains.items()}


def numbers_at(rows, place):
    """The list, by KIND, of how many FLOORS have it at this place of their ROW, of pairs (ROW, how many have it)."""
    found = [0] * 5
    for row, many in rows:
        found[row[place]] += many
    return found


def turned_numbers(numbers):
    """The list, by KIND, of what stands there with x for y."""
    return [numbers[kind] for kind in ACROSS]


class Passage:
    """The FLOORS of room with KINDS of remains, counted by half mats, too, if that is asked for.

    They are gone through along the COLUMNS, and stand ascending; or, if that is asked for, along the rows where
    this is less work, and then they stand in another order.
    """

    def __init__(self, room, remains, by_half=False, either=False):
        self.across = either and lies_across(room, remains)
        if self.across:
            room, remains = turned(room, remains)
        self.squares = room
        # A SQUARE that no mat covers yet has three KINDS at most: so no count grows beyond 4 for each SQUARE.
        self.bits = 2 * len(room) if by_half else 0
        self.columns = columns_of(room, remains)
        self.worths = worths_of(self.columns, self.bits)

    def part(self, many, half):
        """Those of many with half half mats; all if they are not counted by half mats."""
        if self.bits == 0:
            return many
        if not 0 <= half <= len(self.squares):
            return 0
        return many >> self.bits * half & (1 << self.bits) - 1

    def many(self, half=0):
        """How many FLOORS with half half mats there are; all if they are not counted by half mats."""
        return self.part(self.worths[0][0], half)

    def halves(self):
        """The list, ascending, of the pairs (half, how many FLOORS have so many half mats), without those of none."""
        pairs = [(half, self.many(half)) for half in range(len(self.squares) + 1)]
        return [(half, many) for half, many in pairs if many]

    def floor(self, number, half=0):
        """The FLOOR, of those with half half mats, ahead of which number others stand."""
        laid = ()
        profile = (0, 0)
        for column, worth in zip(self.columns, self.worths[1:]):
            for row, at in column.behind(profile):
                many = self.part(worth[at], half - row.count(0))
                if number < many:
                    laid = laid + row
                    profile = column.profiles[at]
                    half = half - row.count(0)
                    break
                number = number - many
        return floors_turned(self.squares, [laid])[0] if self.across else laid

    def lesser(self, laid, half=0):
        """How many FLOORS, of those with half half mats, stand ahead of laid, whether laid is one or not."""
        found = 0
        begin = 0
        profile = (0, 0)
        for column, worth in zip(self.columns, self.worths[1:]):
            own = laid[begin:begin + column.size]
            rows = [(row, at) for row, at in column.behind(profile) if row <= own]
            found += sum([self.part(worth[at], half - row.count(0)) for row, at in rows if row < own])
            if not rows or rows[-1][0] != own:
                return found
            profile = column.profiles[rows[-1][1]]
            half = half - own.count(0)
            begin += column.size
        return found

    def floors(self):
        """The list, ascending, of all FLOORS."""
        grown = [((), 0)]
        profiles = [(0, 0)]
        for column, worth in zip(self.columns, self.worths[1:]):
            rows = {}
            for ahead in sorted(set([place for _, place in grown])):
                rows[ahead] = [(row, at) for row, at in column.behind(profiles[ahead]) if worth[at]]
            grown = [(laid + row, at) for laid, ahead in grown for row, at in rows[ahead]]
            profiles = column.profiles
        floors = [laid for laid, _ in grown]
        return sorted(floors_turned(self.squares, floors)) if self.across else floors

    def rows_many(self):
        """For each COLUMN the list, ascending, of the pairs (ROW, how many FLOORS have it), without those of none."""
        found = []
        for column, totals, worth in zip(self.columns, totals_of(self.columns), self.worths[1:]):
            found.append([(row, totals[group] * worth[at]) for row, group, at in column.rows
                          if totals[group] and worth[at]])
        return found

    def kinds_seen(self):
        """A dict of the set of the KINDS that FLOORS have at each SQUARE."""
        found = {}
        begin = 0
        for rows, column in zip(self.rows_many(), self.columns):
            for place in range(column.size):
                found[self.squares[begin + place]] = tuple(sorted(set([row[place] for row, _ in rows])))
            begin += column.size
        return turned(self.squares, found)[1] if self.across else found

    def kinds_all(self):
        """A dict, by SQUARE, of the list, by KIND, of how many FLOORS have it there."""
        found = {}
        begin = 0
        for rows, column in zip(self.rows_many(), self.columns):
            for place in range(column.size):
                x, y = self.squares[begin + place]
                own = numbers_at(rows, place)
                found[(y, x) if self.across else (x, y)] = turned_numbers(own) if self.across else own
            begin += column.size
        return found

    def kinds_many(self, square):
        """The list, by KIND, of how many FLOORS have it at square."""
        place = self.squares.index((square[1], square[0]) if self.across else square)
        found = []
        for rows, column in zip(self.rows_many(), self.columns):
            if 0 <= place < column.size:
                found = numbers_at(rows, place)
            place -= column.size
        return turned_numbers(found) if self.across else found
