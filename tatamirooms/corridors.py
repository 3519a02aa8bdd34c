"""CORRIDORS: oblong ROOMS up to five high, of whatever width."""

from tatamirooms.errors import TooMany
from tatamirooms.grid import let_table
from tatamirooms.passage import Passage, only
from tatamirooms.plain import need_from, need_kinds
from tatamirooms.rooms import boxed

HIGHEST = 5
WIDEST_COUNT = 2000
WIDEST = 60

# For each high: how the next count is told by those ahead of it, the one right ahead first, and the counts ahead
# of the width from which on this holds. Five heights are asked alone, so what is always so is not found anew.
PARTS = (
    (1, 1),
    (2, 0, 2, -1),
    (1, 2, 0, 2, -1, -1),
    (1, 1, 1, -1, 7, -7, 1, -1, -1, -1, 1),
    (1, 1, -1, 3, -1, 5, -2, -5, -1, -3, -1, -1, 1, 1))
FIRST_COUNTS = (
    (1, 2),
    (2, 6, 13, 29),
    (3, 13, 22, 44, 90, 196, 406, 852),
    (5, 29, 44, 66, 126, 238, 490, 922, 1714, 3306, 6246, 12102, 22994, 43682),
    (8, 68, 90, 126, 178, 325, 584, 1165, 2030, 3619, 6080, 10987, 19362, 35477, 62360, 111837, 195614, 350707))


def check_high(high):
    """TooMany() if high is above 5."""
    if high > HIGHEST:
        raise TooMany()


def check_corridor(high, wide, widest):
    """TooMany() if high is above 5, or wide above widest."""
    check_high(high)
    if wide > widest:
        raise TooMany()


def need_corridor(high, wide, widest):
    """The pair (high, wide) that these are, else Unfit(), then TooMany()."""
    high, wide = need_from(high, 1), need_from(wide, 1)
    check_corridor(high, wide, widest)
    return high, wide


def reduced(terms, parts, number):
    """A power of x, told by its terms, as one below the length of parts, each term by what number leaves of it."""
    terms = list(terms)
    while len(terms) > len(parts):
        last = terms.pop()
        for at, part in enumerate(parts):
            terms[-1 - at] = (terms[-1 - at] + last * part) % number
    return terms


def times(terms, parts, number):
    """The square of such a power."""
    found = [0] * (2 * len(terms) - 1)
    for at, one in enumerate(terms):
        for place, other in enumerate(terms):
            found[at + place] += one * other
    return reduced(found, parts, number)


def power(far, parts, number):
    """x by x, so far, in terms of the powers below the length of parts."""
    found = [1]
    for place in reversed(range(far.bit_length())):
        found = times(found, parts, number)
        if far >> place & 1:
            found = reduced([0] + found, parts, number)
    return found


def corridor_count(high, wide):
    """How many FLOORS the CORRIDOR has; TooMany() above 5 high, 2,000 wide."""
    high, wide = need_corridor(high, wide, WIDEST_COUNT)
    parts = PARTS[high - 1]
    counts = list(FIRST_COUNTS[high - 1])
    while len(counts) < wide:
        newest = counts[-1:-len(parts) - 1:-1]
        counts.append(sum([part * count for part, count in zip(parts, newest)]))
    return counts[wide - 1]


def corridor_rest(high, wide, number):
    """What is left of the count by dividing it by number; TooMany() above 5 high."""
    high, wide, number = need_from(high, 1), need_from(wide, 1), need_from(number, 1)
    check_high(high)
    parts, counts = PARTS[high - 1], FIRST_COUNTS[high - 1]
    if wide <= len(counts):
        return counts[wide - 1] % number
    # As x by x, so the counts go on: a power of x says of which of the newest first counts the one at wide is made.
    newest = counts[-len(parts):]
    terms = power(wide - 1 - len(counts) + len(parts), parts, number)
    return sum([term * count for term, count in zip(terms, newest)]) % number


def corridor_rule(high):
    """The pair (wide, parts): the shortest rule that tells the next count, and from which width on it does."""
    high = need_from(high, 1)
    check_high(high)
    return len(FIRST_COUNTS[high - 1]) + 1, PARTS[high - 1]


def corridor_halves(high, wide):
    """The list, ascending, of the pairs (half, count) with a count above 0; TooMany() above 5 high, 60 wide."""
    high, wide = need_corridor(high, wide, WIDEST)
    room = boxed(high, wide)
    return Passage(room, let_table(room, ()), by_half=True, either=True).halves()


def corridor_fewest(high, wide):
    """The fewest half mats of a FLOOR; TooMany() above 5 high, 2,000 wide."""
    high, wide = need_corridor(high, wide, WIDEST_COUNT)
    # So it is for each of these CORRIDORS: mats alone do wherever the SQUARES are even in number.
    return high * wide % 2


def corridor_most(high, wide):
    """The most half mats of a FLOOR; TooMany() above 5 high, 2,000 wide."""
    high, wide = need_corridor(high, wide, WIDEST_COUNT)
    # So it is for each of these CORRIDORS: as many as the longer side, or one more where this is odd in number
    # and the SQUARES are even.
    longer = max(high, wide)
    return longer + (longer - high * wide) % 2


def corridor_ends(high, wide, kinds, other):
    """How many FLOORS have kinds as the first ROW and other as the last one; TooMany() above 5 high, 60 wide."""
    high, wide = need_from(high, 1), need_from(wide, 1)
    kinds, other = need_kinds(kinds, high), need_kinds(other, high)
    check_corridor(high, wide, WIDEST)
    room = boxed(high, wide)
    remains = only(only(let_table(room, ()), room[:high], kinds), room[-high:], other)
    return Passage(room, remains).many()


def corridor_beginnings(high, wide):
    """The set of the ROWS that the first COLUMN has in FLOORS; TooMany() above 5 high, 60 wide."""
    high, wide = need_corridor(high, wide, WIDEST)
    room = boxed(high, wide)
    rows = Passage(room, let_table(room, ())).rows_many()[0]
    return tuple([row for row, _ in rows])
