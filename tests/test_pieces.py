"""Pieces of a ROOM, and LINES [20]."""

import itertools
import unittest
from fractions import Fraction
from math import gcd, prod

from tatamirooms.counts import how_many
from tatamirooms.errors import TooMany, Unfit
from tatamirooms.floors import courses, is_floor
from tatamirooms.pieces import (
    clear_lines, clear_mean, clear_share, floor_of_pieces, floor_pieces, lines, many_by_pieces, many_clear, parting,
    piece_counts)
from tatamirooms.rooms import pieces
from tests import naive
from tests.naive import TRIAL_ROOMS, boxed, floors_of, listed, long_cross, low_room, seeded

APART = ((0, 0), (0, 1), (1, 0), (3, 0), (3, 1))
CORNERS = ((0, 0), (0, 1), (1, 0), (1, 1), (2, 2), (2, 3), (3, 2), (3, 3))
WIDE = tuple((x, y) for x in range(8) for y in range(2)) + tuple((x, y) for x in (9, 10) for y in range(8))
ROOMS = TRIAL_ROOMS + [APART, CORNERS, ((0, 0), (1, 1), (2, 0)), ((0, 0), (0, 2), (0, 4), (0, 5))]


def lots(room):
    """The lots of SQUARES that hang together by sides."""
    found = []
    for square in room:
        near = [lot for lot in found if any(other in lot for other in naive.beside(square))]
        found = [lot for lot in found if lot not in near] + [{square}.union(*near)]
    return sorted(tuple(sorted(lot)) for lot in found)


def sides(room, line):
    """The pairs of SQUARES beside one another, one on either side of line."""
    axis, number = line
    return [(a, b) for a, b in naive.pairs(room) if a[axis] < number <= b[axis]]


def is_clear(room, floor, line):
    table = dict(zip(room, floor))
    return not any(naive.partner(a, table[a]) == b for a, b in sides(room, line))


class Pieces(unittest.TestCase):
    def test_floors_are_a_product(self):
        for room in ROOMS:
            parts = lots(room)
            self.assertEqual(list(pieces(room)), parts)
            self.assertEqual(piece_counts(room), [len(floors_of(part)) for part in parts])
            self.assertEqual(many_by_pieces(room), how_many(room))
            self.assertEqual(many_by_pieces(room), prod(piece_counts(room)))

    def test_a_floor_is_put_together_of_what_it_was_parted_into(self):
        for room in ROOMS:
            parts = lots(room)
            for floor in floors_of(room)[:60]:
                table = dict(zip(room, floor))
                found = floor_pieces(room, floor)
                self.assertEqual(found, [tuple(table[square] for square in part) for part in parts])
                self.assertTrue(all(is_floor(part, own) for part, own in zip(parts, found)))
                for told in (found, tuple(found), listed(found), [list(own) for own in found]):
                    self.assertEqual(floor_of_pieces(room, told), floor)

    def test_each_floor_of_each_piece_beside_each_other(self):
        for room in (APART, CORNERS, ((0, 0), (1, 1), (2, 0), (2, 1))):
            found = [floor_of_pieces(room, told) for told in itertools.product(*[floors_of(part) for part in lots(room)])]
            self.assertEqual(sorted(found), list(floors_of(room)))

    def test_pieces_that_touch_by_a_corner_alone(self):
        self.assertEqual(piece_counts(CORNERS), [6, 6])
        self.assertEqual(many_by_pieces(CORNERS), 36)
        self.assertEqual(floor_of_pieces(CORNERS, [(0, 0, 2, 4), (2, 4, 0, 0)]), (0, 0, 2, 4, 2, 4, 0, 0))

    def test_parting(self):
        for room in ROOMS:
            wanted = []
            for square in room:
                part = next(part for part in lots(room) if square in part)
                if len(lots([own for own in part if own != square])) > 1:
                    wanted.append(square)
            self.assertEqual(parting(room), tuple(wanted))
        self.assertEqual(parting(((0, 0),)), ())
        self.assertEqual(parting(((0, 0), (0, 1), (5, 5))), ())
        self.assertEqual(parting(CORNERS), ())
        self.assertEqual(parting(((0, 0), (0, 1), (1, 0), (2, 0), (4, 0), (5, 0), (6, 0))), ((0, 0), (1, 0), (5, 0)))

    def test_too_great_as_a_whole_but_not_piece_by_piece(self):
        self.assertEqual(piece_counts(WIDE), [821, 821])
        self.assertEqual(many_by_pieces(WIDE), 821 * 821)
        with self.assertRaises(TooMany):
            how_many(WIDE)

    def test_a_piece_alone_that_is_too_great(self):
        cross = tuple(sorted({(3, y) for y in range(8)} | {(x, 3) for x in range(8)}))
        for room in (cross, cross + ((20, 20),), ((0, 0),) + tuple((x + 3, y) for x, y in cross)):
            for function in (piece_counts, many_by_pieces):
                with self.assertRaises(TooMany):
                    function(room)
        # Seven the one way are not too many, however long it is the other way.
        for room in (tuple(own for own in cross if own != (3, 0)), tuple(own for own in cross if own != (0, 3))):
            self.assertEqual(piece_counts(room), [how_many(room)])
        self.assertEqual(piece_counts(long_cross(8)), [1] * 15)

    def test_lists_that_are_told_are_new(self):
        for function, told in ((piece_counts, (APART,)), (floor_pieces, (APART, (2, 4, 0, 2, 4)))):
            found = function(*told)
            kept = list(found)
            found.append(None)
            self.assertEqual(function(*told), kept)


class Lines(unittest.TestCase):
    def test_lines_part_two_beside_one_another(self):
        for room in ROOMS:
            wanted = [(axis, number) for axis in (0, 1) for number in range(70) if sides(room, (axis, number))]
            self.assertEqual(lines(room), tuple(wanted))
        self.assertEqual(lines(((0, 0),)), ())
        self.assertEqual(lines(((0, 0), (1, 1), (3, 1))), ())
        self.assertEqual(lines(APART), ((0, 1), (1, 1)))

    def test_clear_as_a_trial_of_all_floors(self):
        for room in ROOMS:
            floors = floors_of(room)
            every = lines(room)
            clear = {floor: [line for line in every if is_clear(room, floor, line)] for floor in floors}
            for floor in floors[:50]:
                self.assertEqual(clear_lines(room, floor), tuple(clear[floor]))
            for line in every:
                many = sum(line in own for own in clear.values())
                self.assertEqual(many_clear(room, line), many)
                found = clear_share(room, line)
                self.assertEqual(gcd(*found), 1)
                self.assertEqual(Fraction(*found), Fraction(many, len(floors)))
                self.assertIsInstance(found, tuple)
            found = clear_mean(room)
            self.assertEqual(gcd(*found), 1)
            self.assertEqual(Fraction(*found), Fraction(sum(map(len, clear.values())), len(floors)))
            self.assertEqual(Fraction(*found), sum(Fraction(*clear_share(room, line)) for line in every))

    def test_at_a_point_on_a_clear_line_two_are_joined_along_it(self):
        for room in ROOMS:
            for floor in floors_of(room)[:30]:
                table = dict(zip(room, floor))
                for axis, number in clear_lines(room, floor):
                    for point in naive.points(room):
                        if point[axis] == number:
                            four = naive.about(point)
                            self.assertTrue(any(
                                a[1 - axis] != b[1 - axis] and naive.partner(a, table[a]) == b for a in four for b in four))

    def test_rooms_without_a_line(self):
        for room in (((0, 0),), ((0, 0), (1, 1)), ((7, 2), (9, 2))):
            self.assertEqual((lines(room), clear_mean(room)), ((), (0, 1)))
            self.assertEqual(clear_lines(room, (0,) * len(room)), ())
            for line in ((0, 0), (0, 1), (1, 1), (0, 8)):
                with self.assertRaises(Unfit):
                    many_clear(room, line)

    def test_great_rooms(self):
        for room in (boxed(7, 14), boxed(14, 7), low_room(seeded(4), 90)):
            found = clear_mean(room)
            self.assertEqual(Fraction(*found), sum(Fraction(*clear_share(room, line)) for line in lines(room)))
        for high, wide in ((3, 5), (5, 3), (2, 9), (9, 2)):
            self.assertEqual([many_clear(boxed(high, wide), (0, own)) for own in range(1, wide)],
                             [many_clear(boxed(wide, high), (1, own)) for own in range(1, wide)])

    def test_what_is_refused_in_which_order(self):
        for function in (many_clear, clear_share):
            with self.assertRaises(TooMany):
                function(WIDE, (0, 1))
            for line in ((0, 9), (2, 1), (0, True), None, (0, 1, 0), "ab"):
                with self.assertRaises(Unfit):
                    function(WIDE, line)
            with self.assertRaises(Unfit):
                function(WIDE[::-1], (0, 1))
            self.assertEqual(function(room=listed(APART), line=[0, 1]), function(APART, (0, 1)))
        with self.assertRaises(TooMany):
            clear_mean(WIDE)
        with self.assertRaises(TooMany):
            clear_mean(long_cross(8))
        self.assertEqual(clear_lines(WIDE, courses(WIDE, 0))[-1], (1, 7))


class RefusedFloors(unittest.TestCase):
    def test_floors_of_pieces(self):
        for told in ([(1, 0, 3)], [(1, 0, 3), (0, 0), (0,)], [(0, 0), (1, 0, 3)], [(1, 0, 3), (0, 2)], [(1, 0, 3), None],
                     (1, 0, 3, 0, 0), [], None, "ab", [(1, 0, 3), (0, True)], [(1, 0, 3), (0, 0, 0)], 7):
            with self.assertRaises(Unfit):
                floor_of_pieces(APART, told)
        for told in ((0, 0, 0, 0), (1, 0, 0, 0, 0), (2, 4, 1, 3, 0), None):
            for function in (floor_pieces, clear_lines):
                with self.assertRaises(Unfit):
                    function(APART, told)


if __name__ == "__main__":
    unittest.main()
