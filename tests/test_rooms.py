"""Rooms [5]."""

import unittest

from tatamirooms.errors import CanNot, NoPoint, NoSquare
from tatamirooms.rooms import (
    about, around, beside, box_of, boxed, inner, is_room, is_square, pieces, pillars, points, rim, sizes,
    square_less, square_more)
from tests import naive
from tests.naive import SMALL_ROOMS, WIDER_ROOMS, grown_room, seeded


def reached(start, cells, ways):
    """All of cells that ways lead to from start."""
    found, waiting = {start}, [start]
    while waiting:
        for other in ways(waiting.pop()):
            if other in cells and other not in found:
                found.add(other)
                waiting.append(other)
    return found


def split(cells, ways):
    """The lots of cells that hang together by ways."""
    found = []
    for cell in sorted(cells):
        if not any(cell in lot for lot in found):
            found.append(reached(cell, cells, ways))
    return found


def pillars_of(room):
    """How many pillars there are, counted over all pairs of numbers up to 2 from the box."""
    xs, ys = [x for x, _ in room], [y for _, y in room]
    free = {(x, y) for x in range(min(xs) - 2, max(xs) + 3) for y in range(min(ys) - 2, max(ys) + 3)} - set(room)
    return len(split(free, naive.around)) - 1


ROOMS = SMALL_ROOMS + WIDER_ROOMS + [grown_room(seeded(at), 5 + at % 60) for at in range(120)]


class OverManyRooms(unittest.TestCase):
    def test_squares_beside_and_around(self):
        for room in ROOMS:
            for square in room:
                self.assertEqual(beside(room, square), tuple(sorted(s for s in naive.beside(square) if s in room)))
                self.assertEqual(around(room, square), tuple(sorted(s for s in naive.around(square) if s in room)))

    def test_each_square_is_of_the_rim_or_inner(self):
        for room in ROOMS:
            self.assertEqual(rim(room), naive.rim(room))
            self.assertEqual(tuple(sorted(rim(room) + inner(room))), room)
            for square in inner(room):
                self.assertEqual(len(around(room, square)), 8)
                self.assertEqual(sum(square in about(room, point) for point in points(room)), 4)

    def test_points_and_sizes(self):
        for room in ROOMS:
            self.assertEqual(points(room), naive.points(room))
            self.assertEqual(sizes(room), (len(room), len(rim(room)), len(points(room))))
            for point in points(room):
                self.assertEqual(about(room, point), tuple(naive.about(point)))

    def test_pieces(self):
        for room in ROOMS:
            found = pieces(room)
            self.assertEqual(found, tuple(tuple(sorted(lot)) for lot in split(room, naive.beside)))
            self.assertEqual(found, tuple(sorted(found)))
            self.assertTrue(all(is_room(piece) for piece in found))
            self.assertEqual(points(room), tuple(sorted(point for piece in found for point in points(piece))))
            self.assertEqual(inner(room), tuple(sorted(square for piece in found for square in inner(piece))))

    def test_pillars(self):
        for room in ROOMS:
            self.assertEqual(pillars(room), pillars_of(room))

    def test_one_square_more_and_less(self):
        for room in ROOMS:
            for square in room:
                if len(room) > 1:
                    less = square_less(room, square)
                    self.assertEqual(less, tuple(own for own in room if own != square))
                    self.assertEqual(square_more(less, square), room)
                with self.assertRaises(CanNot):
                    square_more(room, square)

    def test_boxes(self):
        for room in ROOMS:
            xs, ys = [x for x, _ in room], [y for _, y in room]
            self.assertEqual(box_of(room), ((min(xs), min(ys)), (max(xs), max(ys))))


class Edges(unittest.TestCase):
    def test_boxed(self):
        for high in range(1, 8):
            for wide in range(1, 8):
                room = boxed(high, wide)
                self.assertEqual(room, naive.boxed(high, wide))
                self.assertTrue(is_room(room))
                self.assertEqual(len(points(room)), (high - 1) * (wide - 1))
                if high > 1 and wide > 1:
                    self.assertEqual(len(inner(room)), (high - 2) * (wide - 2))

    def test_one_square(self):
        for lone in (((0, 0),), ((60, 3),)):
            self.assertEqual([rim(lone), inner(lone), points(lone), pieces(lone)], [lone, (), (), (lone,)])
            self.assertEqual([beside(lone, lone[0]), around(lone, lone[0]), pillars(lone)], [(), (), 0])
            self.assertEqual([sizes(lone), box_of(lone)], [(1, 1, 0), (lone[0], lone[0])])

    def test_pieces_that_touch_by_a_corner(self):
        room = ((0, 0), (1, 1), (2, 0))
        self.assertEqual(pieces(room), (((0, 0),), ((1, 1),), ((2, 0),)))
        self.assertEqual(around(room, (1, 1)), ((0, 0), (2, 0)))
        self.assertEqual(beside(room, (1, 1)), ())

    def test_pillars_hang_together_by_corners(self):
        five = boxed(5, 5)
        self.assertEqual(pillars(tuple(s for s in five if s not in ((1, 1), (2, 2), (3, 3)))), 1)
        self.assertEqual(pillars(tuple(s for s in five if s not in ((1, 1), (3, 3)))), 2)
        self.assertEqual(pillars(tuple(s for s in five if s not in ((0, 0), (1, 1)))), 0)
        self.assertEqual(pillars(tuple(s for s in five if s not in ((1, 1), (1, 2), (3, 1), (3, 3)))), 3)

    def test_a_piece_in_a_pillar(self):
        hall = tuple(s for s in boxed(7, 7) if not (1 <= s[0] <= 5 and 1 <= s[1] <= 5))
        self.assertEqual(pillars(hall), 1)
        self.assertEqual(pillars(tuple(sorted(hall + ((3, 3),)))), 1)
        ring = tuple((x, y) for x in (2, 3, 4) for y in (2, 3, 4) if (x, y) != (3, 3))
        self.assertEqual(pillars(tuple(sorted(hall + ring))), 2)
        self.assertEqual(len(pieces(tuple(sorted(hall + ring)))), 2)

    def test_great_rooms(self):
        great = tuple((x, y) for x in range(51, 61) for y in range(51, 61))
        self.assertEqual(sizes(great), (100, 36, 81))
        self.assertEqual(pillars(great), 0)
        self.assertEqual(pillars(tuple((x, y) for x in range(0, 61, 7) for y in range(0, 61, 7))), 0)
        self.assertEqual(len(inner(boxed(60, 60))), 58 * 58)
        wall = tuple((x, y) for x in range(26) for y in range(26) if x in (0, 25) or y in (0, 25))
        self.assertEqual((len(wall), pillars(wall), len(pieces(wall))), (100, 1, 1))

    def test_a_square_put_far_away(self):
        far = square_more(((0, 0),), (10 ** 6, 10 ** 6))
        self.assertEqual(far, ((0, 0), (10 ** 6, 10 ** 6)))
        self.assertEqual([pillars(far), len(pieces(far)), sizes(far)], [0, 2, (2, 2, 0)])
        ring = square_more(tuple(s for s in boxed(3, 3) if s != (1, 1)), (10 ** 6, 1))
        self.assertEqual(pillars(ring), 1)

    def test_is_room(self):
        self.assertTrue(all(is_room(room) for room in ROOMS))
        for room in SMALL_ROOMS:
            if len(room) > 1:
                self.assertFalse(is_room(room[::-1]))
            self.assertFalse(is_room(room + room[-1:]))
            self.assertFalse(is_room(list(room)))

    def test_is_square(self):
        for room in SMALL_ROOMS[:40]:
            for square in boxed(5, 5):
                self.assertIs(is_square(room, square), square in room)

    def test_what_is_none_of_the_room(self):
        room = ((1, 1), (1, 2), (2, 1))
        for square in ((0, 0), (2, 2), (-1, 5), (10 ** 6, 0)):
            for function in (beside, around, square_less):
                with self.subTest(square=square, function=function), self.assertRaises(NoSquare) as raised:
                    function(room, list(square))
                self.assertEqual(raised.exception.square, square)
        for point in ((2, 2), (1, 1), (-1, -1), (0, 10 ** 6)):
            with self.subTest(point=point), self.assertRaises(NoPoint) as raised:
                about(room, list(point))
            self.assertEqual(raised.exception.point, point)


if __name__ == "__main__":
    unittest.main()
