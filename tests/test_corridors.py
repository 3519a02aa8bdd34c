"""CORRIDORS [14]."""

import itertools
import unittest

from tatamirooms.corridors import (
    corridor_beginnings, corridor_count, corridor_ends, corridor_fewest, corridor_halves, corridor_most,
    corridor_rest, corridor_rule)
from tatamirooms.errors import TooMany, Unfit
from tatamirooms.floors import all_floors
from tests import naive
from tests.naive import boxed

PRIME = 2 ** 61 - 1
SMALL = [(high, wide) for high in range(1, 6) for wide in range(1, 9) if high * wide <= 15 or high == wide]


def rows_of(high):
    """All ROWS, so high, that fit in themselves."""
    return [row for row in itertools.product(range(5), repeat=high)
            if row[0] != 4 and row[-1] != 2 and all((a == 2) == (b == 4) for a, b in zip(row, row[1:]))]


def goes_with(ahead, row):
    """Whether row fits behind ahead, by the words of the document."""
    if any((a == 1) != (b == 3) for a, b in zip(ahead, row)):
        return False
    table = {(0, y): kind for y, kind in enumerate(ahead)}
    table.update({(1, y): kind for y, kind in enumerate(row)})
    return all(naive.point_fits((1, y), table) for y in range(1, len(row)))


class Steps:
    """The ROWS of a height, and which go behind which: those are one lot that have the same ones behind, last or not."""

    def __init__(self, high):
        self.rows = rows_of(high)
        west = {}
        for row in self.rows:
            west.setdefault(tuple(kind == 3 for kind in row), []).append(row)
        lots = {}
        self.lot = {}
        for row in self.rows:
            near = west.get(tuple(kind == 1 for kind in row), [])
            behind = tuple(other for other in near if goes_with(row, other))
            self.lot[row] = lots.setdefault((behind, 1 in row), len(lots))
        self.behind = [behind for behind, _ in lots]
        self.last = {self.lot[row] for row in self.rows if 1 not in row}

    def go(self, wide, begin, best, more):
        """For each width what best makes of all FLOORS, each being begin and more for each of its ROWS, added up."""
        reached = {}
        for row in self.rows:
            if 3 not in row:
                reached.setdefault(self.lot[row], []).append(begin(row))
        found = []
        for _ in range(wide):
            held = {lot: best(values) for lot, values in reached.items()}
            found.append(best([value for lot, value in held.items() if lot in self.last]))
            reached = {}
            for lot, value in held.items():
                for row in self.behind[lot]:
                    reached.setdefault(self.lot[row], []).append(value + more(row))
        return found


STEPS = {high: Steps(high) for high in range(1, 6)}
WIDEST = 300
COUNTS = {high: STEPS[high].go(WIDEST, lambda row: 1, sum, lambda row: 0) for high in STEPS}


def half(row):
    return row.count(0)


class Count(unittest.TestCase):
    def test_as_all_floors(self):
        for high, wide in SMALL:
            self.assertEqual(corridor_count(high, wide), len(all_floors(boxed(high, wide))))
        for high, wide in ((3, 4), (2, 6), (4, 3)):
            self.assertEqual(corridor_count(high, wide), naive.count_by_mats(boxed(high, wide)))

    def test_as_row_by_row(self):
        for high, counts in COUNTS.items():
            self.assertEqual([corridor_count(high, wide) for wide in range(1, WIDEST + 1)], counts)

    def test_turned_by_a_quarter(self):
        for high, wide in itertools.product(range(1, 6), repeat=2):
            self.assertEqual(corridor_count(high, wide), corridor_count(wide, high))
            self.assertEqual(corridor_halves(high, wide), corridor_halves(wide, high))
            self.assertEqual(corridor_fewest(high, wide), corridor_fewest(wide, high))
            self.assertEqual(corridor_most(high, wide), corridor_most(wide, high))

    def test_the_widest(self):
        for high in range(1, 6):
            wide, parts = corridor_rule(high)
            counts = [corridor_count(high, own) for own in range(1985, 2001)]
            for at in range(len(parts), 16):
                self.assertEqual(counts[at], sum(part * counts[at - 1 - far] for far, part in enumerate(parts)))
        self.assertEqual(corridor_count(1, 2000), fibonacci(2001))


def fibonacci(number):
    one, two = 0, 1
    for _ in range(number):
        one, two = two, one + two
    return one


class Rule(unittest.TestCase):
    def test_it_holds_from_the_least_width_on(self):
        for high, counts in COUNTS.items():
            wide, parts = corridor_rule(high)
            holds = {}
            for own in range(len(parts) + 1, WIDEST + 1):
                holds[own] = counts[own - 1] == sum(part * counts[own - 2 - at] for at, part in enumerate(parts))
            # So many widths one after another as there are lots of ROWS, and it holds for all.
            self.assertGreater(WIDEST - wide, 2 * len(STEPS[high].behind))
            self.assertTrue(all(holds[own] for own in range(wide, WIDEST + 1)))
            self.assertTrue(wide == len(parts) + 1 or not holds[wide - 1])

    def test_it_is_the_shortest(self):
        for high, counts in COUNTS.items():
            many = len(corridor_rule(high)[1])
            self.assertNotEqual(corridor_rule(high)[1][-1], 0)
            # A shorter one would make the rows of this table, far behind, hang on one another.
            far = counts[150:]
            self.assertEqual(rank([[far[at + own] for own in range(many)] for at in range(many)]), many)
            self.assertEqual(rank([[far[at + own] for own in range(many + 1)] for at in range(many + 1)]), many)

    def test_two_high_and_three_high(self):
        self.assertEqual(corridor_rule(2), (5, (2, 0, 2, -1)))
        self.assertEqual(corridor_rule(3), (9, (1, 2, 0, 2, -1, -1)))
        for high in (6, 7, 10 ** 30):
            with self.assertRaises(TooMany):
                corridor_rule(high)


def rank(table):
    """How many rows of table do not hang on the others, by what a great prime leaves of them."""
    table = [[number % PRIME for number in row] for row in table]
    found = 0
    for at in range(len(table)):
        first = next((row for row in table[found:] if row[at]), None)
        if first:
            table.remove(first)
            table.insert(found, first)
            found += 1
            scale = pow(first[at], PRIME - 2, PRIME)
            for own in range(found, len(table)):
                times = table[own][at] * scale
                table[own] = [(a - times * b) % PRIME for a, b in zip(table[own], first)]
    return found


class Rest(unittest.TestCase):
    def test_as_the_count_leaves(self):
        for high in range(1, 6):
            for wide in list(range(1, 40)) + [60, 777, 1999, 2000]:
                for number in (1, 2, 10, 997, 10 ** 6, 10 ** 40):
                    self.assertEqual(corridor_rest(high, wide, number), corridor_count(high, wide) % number)

    def test_by_powers_of_a_matrix(self):
        for high in (1, 2, 3):
            steps = STEPS[high]
            many = len(steps.behind)
            once = [[sum(steps.lot[row] == to for row in steps.behind[at]) for to in range(many)] for at in range(many)]
            begin = [sum(steps.lot[row] == at for row in steps.rows if 3 not in row) for at in range(many)]
            for wide, number in ((10 ** 30, 1000), (10 ** 30 - 1, 999983), (10 ** 18 + 7, 10 ** 6)):
                reached, matrix = [begin], once
                for bit in bin(wide - 1)[2:][::-1]:
                    if bit == "1":
                        reached = product(reached, matrix, number)
                    matrix = product(matrix, matrix, number)
                wanted = sum(reached[0][lot] for lot in steps.last) % number
                self.assertEqual(corridor_rest(high, wide, number), wanted)

    def test_far_widths_go_on_by_the_rule(self):
        for high in range(1, 6):
            parts = corridor_rule(high)[1]
            for number in (7, 1000, 10 ** 6):
                rests = [corridor_rest(high, 10 ** 30 - at, number) for at in range(len(parts) + 1)]
                self.assertEqual(rests[0], sum(part * rest for part, rest in zip(parts, rests[1:])) % number)
                self.assertEqual(corridor_rest(high, 10 ** 30, number * 12) % number, rests[0])
            self.assertEqual(corridor_rest(high, 10 ** 30, 1), 0)


def product(one, two, number):
    return [[sum(a * b for a, b in zip(row, column)) % number for column in zip(*two)] for row in one]


class Halves(unittest.TestCase):
    def test_as_all_floors(self):
        for high, wide in SMALL:
            counts = [floor.count(0) for floor in all_floors(boxed(high, wide))]
            self.assertEqual(corridor_halves(high, wide), [(own, counts.count(own)) for own in sorted(set(counts))])

    def test_they_add_up_to_the_count(self):
        for high in range(1, 6):
            for wide in (9, 17, 59, 60):
                pairs = corridor_halves(high, wide)
                self.assertEqual(sum(count for _, count in pairs), corridor_count(high, wide))
                self.assertEqual((pairs[0][0], pairs[-1][0]), (corridor_fewest(high, wide), corridor_most(high, wide)))
                self.assertEqual({own % 2 for own, _ in pairs}, {high * wide % 2})
                self.assertTrue(all(count > 0 for _, count in pairs))

    def test_fewest_and_most_at_all_widths(self):
        for high, steps in STEPS.items():
            self.assertEqual([corridor_fewest(high, wide) for wide in range(1, 2001)], steps.go(2000, half, min, half))
            self.assertEqual([corridor_most(high, wide) for wide in range(1, 2001)], steps.go(2000, half, max, half))


class Ends(unittest.TestCase):
    def test_as_all_floors(self):
        for high, wide in SMALL:
            floors = all_floors(boxed(high, wide))
            known = {}
            for floor in floors:
                ends = (floor[:high], floor[-high:])
                known[ends] = known.get(ends, 0) + 1
            begin, last = sorted({own for own, _ in known}), sorted({own for _, own in known})
            for ends in itertools.product(begin + last[:2], last + begin[:2]):
                self.assertEqual(corridor_ends(high, wide, *ends), known.get(ends, 0))
            self.assertEqual(corridor_beginnings(high, wide), tuple(begin))

    def test_they_add_up_to_the_count(self):
        for high, wide in ((1, 60), (2, 31), (3, 12), (4, 9)):
            begin = corridor_beginnings(high, wide)
            last = [row for row in rows_of(high) if 1 not in row]
            found = {ends: corridor_ends(high, wide, *ends) for ends in itertools.product(begin, last)}
            self.assertEqual(sum(found.values()), corridor_count(high, wide))
            self.assertTrue(all(any(found[row, other] for other in last) for row in begin))

    def test_rows_that_no_floor_has(self):
        for kinds in ((3, 0), (0, 4), (2, 2), (0, 2), (4, 0)):
            self.assertEqual(corridor_ends(2, 4, kinds, (0, 0)), 0)
        for kinds in ((1, 0), (0, 4), (2, 2), (0, 2), (4, 0)):
            self.assertEqual(corridor_ends(2, 4, (0, 0), kinds), 0)
        self.assertEqual([corridor_ends(1, 1, *own) for own in (((0,), (0,)), ((0,), (1,)), ((3,), (3,)))], [1, 0, 0])

    def test_beginnings_of_wide_corridors(self):
        for high in range(1, 6):
            lots = {row for row in rows_of(high) if 3 not in row}
            for wide in (30, 60):
                begin = corridor_beginnings(high, wide)
                self.assertEqual(list(begin), sorted(begin))
                self.assertTrue(set(begin) <= lots)


class Refused(unittest.TestCase):
    ASKED = ((corridor_count, (), 2000), (corridor_halves, (), 60), (corridor_fewest, (), 2000),
             (corridor_most, (), 2000), (corridor_beginnings, (), 60))

    def test_too_high_and_too_wide(self):
        for function, more, widest in self.ASKED:
            for high in range(1, 6):
                function(high, widest)
                for wide in (widest + 1, 10 ** 30):
                    with self.assertRaises(TooMany):
                        function(high, wide)
            for high in (6, 10 ** 30):
                for wide in (1, widest + 1):
                    with self.assertRaises(TooMany):
                        function(high, wide)
                with self.assertRaises(Unfit):
                    function(high, 0)

    def test_ends_and_rests(self):
        rows = ((0,) * 6, (0,) * 6)
        with self.assertRaises(TooMany):
            corridor_ends(6, 1, *rows)
        with self.assertRaises(TooMany):
            corridor_ends(2, 61, (0, 0), (0, 0))
        self.assertEqual(corridor_ends(1, 60, (0,), (0,)), fibonacci(59))
        for told in ((6, 1, rows[0], rows[0][1:]), (6, 1, rows[0][1:], rows[0]), (2, 61, (0, 0), (0, 5)),
                     (10 ** 30, 1, (0,), (0,)), (2, 61, (0, True), (0, 0))):
            with self.assertRaises(Unfit):
                corridor_ends(*told)
        for told in ((6, 5, 7), (6, 10 ** 30, 1), (10 ** 30, 1, 1)):
            with self.assertRaises(TooMany):
                corridor_rest(*told)
        for told in ((6, 5, 0), (6, 0, 1), (0, 1, 1), (5, 1, True), (5, 1, -3)):
            with self.assertRaises(Unfit):
                corridor_rest(*told)


if __name__ == "__main__":
    unittest.main()
