"""COLUMNS, ROWS and REACHES [15]."""

import itertools
import unittest

from tatamirooms.columns import (
    column, fit_behind, how_far, is_reaches, is_shut, reaches, rows_at, rows_left)
from tatamirooms.errors import TooMany, Unfit
from tests import naive
from tests.naive import (
    TRIAL_ROOMS, boxed, kept_by, floors_of, listed, long_cross, low_room, seeded, some_lets, trials)

TWO, THREE = boxed(2, 2), boxed(3, 3)
HIGH = boxed(8, 1)


def column_of(room, x):
    return tuple(square for square in room if square[0] == x)


def rows_of(room, lets, x):
    """The ROWS of the COLUMN at x that fit in themselves and keep lets, by a trial of all tuples of KINDS."""
    squares, table = column_of(room, x), dict(lets)
    let = [[kind for kind in table.get(square, range(5))
            if kind == 0 or naive.partner(square, kind) in room] for square in squares]
    found = []
    for row in itertools.product(*let):
        kinds = dict(zip(squares, row))
        if all(naive.two_fit(a, kinds[a], b, kinds[b]) for a, b in naive.pairs(squares)):
            found.append(row)
    return tuple(sorted(found))


def goes_behind(room, x, ahead, row):
    """Whether row at x fits behind ahead, by the words of the document."""
    west, east = column_of(room, x - 1), column_of(room, x)
    table = {**dict(zip(west, ahead)), **dict(zip(east, row))}
    sides = [(a, b) for a, b in naive.pairs(west + east) if a[0] != b[0]]
    corners = [point for point in naive.points(room) if point[0] == x]
    return (all(naive.two_fit(a, table[a], b, table[b]) for a, b in sides)
            and all(naive.point_fits(point, table) for point in corners))


def reaches_of(room, lets):
    """REACHES, by the words of the document."""
    found = []
    for x in range(room[0][0], room[-1][0] + 1):
        rows = rows_of(room, lets, x) if column_of(room, x) else ((),)
        if found:
            rows = tuple(row for row in rows if any(goes_behind(room, x, ahead, row) for ahead in found[-1]))
        found.append(rows)
    return tuple(found)


class Columns(unittest.TestCase):
    def test_column(self):
        for room in TRIAL_ROOMS + [HIGH, long_cross(8)]:
            for x in list(range(-2, 12)) + [59, 60, 61, 10 ** 6]:
                self.assertEqual(column(room, x), column_of(room, x))

    def test_rows_at(self):
        for room, lets, _ in trials(41, 2):
            for x in range(room[0][0] - 1, min(room[-1][0], room[0][0] + 9) + 2):
                self.assertEqual(rows_at(room, lets, x), rows_of(room, lets, x))
        self.assertEqual([len(rows_at(boxed(high, 3), (), 1)) for high in range(1, 8)], [3, 10, 33, 109, 360, 1189, 3927])

    def test_rows_where_no_squares_are(self):
        room = ((2, 0), (5, 0))
        for x in (-(10 ** 6), -1, 0, 1, 3, 4, 6, 10 ** 6):
            self.assertEqual(rows_at(room, (), x), ((),))
            self.assertEqual(rows_at(room, ((room[0], ()),), x), ((),))
            self.assertEqual(rows_left(room, (), x), ((),))
            self.assertEqual(rows_left(room, ((room[0], ()),), x), ())
        self.assertEqual(rows_at(room, ((room[0], ()),), 2), ())

    def test_fit_behind(self):
        chance = seeded(42)
        for room in TRIAL_ROOMS:
            for x in range(room[0][0] - 1, min(room[-1][0], room[0][0] + 6) + 2):
                west, east = len(column_of(room, x - 1)), len(column_of(room, x))
                rows = [(tuple(chance.choice((0, 1, 1, 2, 4)) for _ in range(west)),
                         tuple(chance.choice((0, 2, 3, 3, 4)) for _ in range(east))) for _ in range(15)]
                if west + east <= 4:
                    rows = [(own[:west], own[west:]) for own in itertools.product(range(5), repeat=west + east)]
                for ahead, row in rows:
                    self.assertIs(fit_behind(room, x, ahead, row), goes_behind(room, x, ahead, row))

    def test_rows_that_do_not_fit_in_themselves(self):
        # Whether (4, 2) fits in itself is not asked, nor whether it leads out of the ROOM.
        self.assertTrue(fit_behind(TWO, 0, (), (4, 2)))
        self.assertTrue(fit_behind(TWO, 2, (1, 1), ()))
        self.assertTrue(fit_behind(TWO, 1, (1, 0), (3, 1)))
        self.assertFalse(fit_behind(TWO, 1, (2, 2), (4, 4)))

    def test_long_columns(self):
        self.assertEqual(column(HIGH, 0), HIGH)
        self.assertTrue(fit_behind(boxed(8, 2), 1, (1,) * 8, (3,) * 8))
        for x in (0, 1, -1):
            for function, told in ((rows_at, ((), x)), (rows_left, ((), x))):
                with self.assertRaises(TooMany):
                    function(HIGH, *told)


class Reaches(unittest.TestCase):
    def test_reaches_by_the_words(self):
        for room, lets, _ in trials(43, 4):
            wanted = reaches_of(room, lets)
            self.assertEqual(reaches(room, lets), wanted)
            self.assertIs(is_shut(room, lets), wanted[-1] == ())
            self.assertEqual(how_far(room, lets), sum(rows != () for rows in wanted))
            self.assertIs(is_reaches(room, lets, wanted), True)

    def test_shut_exactly_if_no_floor_keeps_lets(self):
        shut = 0
        for room, lets, floors in trials(44, 6):
            self.assertIs(is_shut(room, lets), not floors)
            shut += not floors
            found = reaches(room, lets)
            if floors:
                last = {tuple(kind for square, kind in zip(room, floor) if square[0] == room[-1][0]) for floor in floors}
                self.assertEqual(found[-1], tuple(sorted(last)))
                self.assertEqual(how_far(room, lets), len(found))
            self.assertTrue(all(rows == () for rows in found[how_far(room, lets):]))
        self.assertGreater(shut, 100)

    def test_rows_left_are_those_of_floors(self):
        for room, lets, floors in trials(45, 3):
            for x in range(room[0][0] - 1, min(room[-1][0], room[0][0] + 9) + 2):
                places = [at for at, square in enumerate(room) if square[0] == x]
                wanted = {tuple(floor[at] for at in places) for floor in floors}
                self.assertEqual(rows_left(room, lets, x), tuple(sorted(wanted)))

    def test_with_more_let_no_set_has_fewer_rows(self):
        chance = seeded(46)
        for room, lets, _ in trials(47, 2):
            more = tuple((square, tuple(sorted(set(kinds) | {chance.randrange(5)}))) for square, kinds in lets)
            for fewer, rows in zip(reaches(room, lets), reaches(room, more)):
                self.assertTrue(set(fewer) <= set(rows))

    def test_columns_without_squares(self):
        room = ((1, 0), (1, 1), (4, 0))
        self.assertEqual(reaches(room, ()), (((0, 0), (2, 4)), ((),), ((),), ((0,),)))
        self.assertEqual(reaches(room, (((1, 1), (3,)),)), ((), (), (), ()))
        self.assertEqual(reaches(room, (((4, 0), (1,)),)), (((0, 0), (2, 4)), ((),), ((),), ()))
        self.assertEqual([how_far(room, (((4, 0), (1,)),)), how_far(room, (((1, 1), ()),))], [3, 0])
        # Neither can be joined with what is not there: nothing is joined east before the gap, nor west behind it.
        self.assertEqual(reaches(((0, 0), (2, 0)), (((0, 0), (1,)),)), ((), (), ()))

    def test_a_row_of_a_set_ahead_need_not_be_one_of_a_floor(self):
        middle = (((1, 1), (0,)),)
        self.assertEqual(len(reaches(THREE, middle)[0]), 12)
        self.assertEqual(rows_left(THREE, middle, 0), ((1, 2, 4), (2, 4, 1)))

    def test_one_square(self):
        lone = ((7, 9),)
        self.assertEqual(reaches(lone, ()), (((0,),),))
        self.assertEqual(reaches(lone, ((lone[0], (1, 2)),)), ((),))
        self.assertEqual([rows_left(lone, (), 7), rows_at(lone, (), 7), column(lone, 7)], [((0,),), ((0,),), lone])

    def test_great_rooms(self):
        for at in range(8):
            room = low_room(seeded(at), 100 - at)
            found = reaches(room, ())
            self.assertFalse(is_shut(room, ()))
            for x, rows in zip(range(room[0][0], room[-1][0] + 1), found):
                self.assertEqual(list(rows), sorted(set(rows)))
                self.assertTrue(set(rows_left(room, (), x)) <= set(rows))
                self.assertTrue(set(rows) <= set(rows_at(room, (), x)))
            chance = seeded(100 + at)
            lets = some_lets(chance, room)
            self.assertEqual(is_shut(room, lets), rows_left(room, lets, room[0][0]) == ())
        row = tuple((x, 5) for x in range(61))
        self.assertEqual(reaches(row, ())[30], ((0,), (1,), (3,)))
        self.assertEqual(how_far(row, (((40, 5), (2,)),)), 40)


class WhatAreReaches(unittest.TestCase):
    def test_values_like_reaches(self):
        for room, lets, _ in trials(48, 1)[::3]:
            right = reaches(room, lets)
            # Other values are other REACHES or none; a list or a truth stands for none.
            self.assertIs(is_reaches(room, lets, right), True)
            self.assertIs(is_reaches(room, lets, list(right)), False)
            self.assertIs(is_reaches(room, lets, listed(right)), False)
            self.assertIs(is_reaches(room, lets, right + ((),)), False)
            self.assertIs(is_reaches(room, lets, right[1:]), False)
            for at, rows in enumerate(right):
                for other in (list(rows), rows + rows[:1], rows + ((),), rows[:-1], rows[::-1], None, (0,)):
                    same = repr(other) == repr(rows)
                    self.assertIs(is_reaches(room, lets, right[:at] + (other,) + right[at + 1:]), same)
                if rows and rows[0]:
                    for row in (list(rows[0]), rows[0][1:], tuple(map(bool, rows[0])), tuple(map(str, rows[0]))):
                        self.assertIs(is_reaches(room, lets, right[:at] + ((row,) + rows[1:],) + right[at + 1:]), False)


class Refused(unittest.TestCase):
    def test_too_many_stands_behind_unfit(self):
        for function, more in ((rows_at, (0,)), (reaches, ()), (is_reaches, (None,)), (is_shut, ()), (how_far, ()),
                               (rows_left, (0,))):
            for room in (HIGH, boxed(8, 2), long_cross(8), tuple((9, y) for y in range(0, 60, 8))):
                with self.assertRaises(TooMany):
                    function(room, (), *more)
                with self.assertRaises(Unfit):
                    function(room, (((30, 30), ()),), *more)
                if function in (rows_at, rows_left):
                    with self.assertRaises(Unfit):
                        function(room, (), None)
            function(boxed(7, 1), (), *more)
            function(boxed(7, 14), (), *more)

    def test_rows_of_other_sizes(self):
        for told in ((1, (0,), (0, 0)), (1, (0, 0), (0,)), (1, (0, 0), (0, 5)), (1, (0, 0, 0), (0, 0)), (0, (0,), (0, 0)),
                     (2, (0, 0), (0, 0)), (9, (), (0,)), (0, None, (0, 0)), (1, (0, True), (0, 0)), ("1", (0, 0), (0, 0))):
            with self.assertRaises(Unfit):
                fit_behind(TWO, *told)
        self.assertTrue(fit_behind(TWO, 9, (), []))

    def test_what_is_kept_by_floors_alone_is_left(self):
        for room in TRIAL_ROOMS[-6:]:
            for floor in floors_of(room)[::5]:
                lets = tuple((square, (kind,)) for square, kind in zip(room, floor))
                self.assertEqual(kept_by(floors_of(room), room, lets), [floor])
                for x in sorted({square[0] for square in room}):
                    own = tuple(kind for square, kind in zip(room, floor) if square[0] == x)
                    self.assertEqual(rows_left(room, lets, x), (own,))


if __name__ == "__main__":
    unittest.main()
