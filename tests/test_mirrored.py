"""Rooms moved [8]."""

import itertools
import unittest

from tatamirooms.errors import NoSquare, Unfit
from tatamirooms.floors import all_floors, how_many_half, is_floor
from tatamirooms.mirrored import (
    floor_moved, floors_alike, least_seen, move_back, moved, moves_of, moves_put, seen_alike, square_moved)
from tatamirooms.rooms import is_room, points, rim
from tests.naive import SMALL_ROOMS, WIDER_ROOMS, boxed, grown_room, partner, seeded

ROOMS = SMALL_ROOMS[::3] + WIDER_ROOMS + SMALL_ROOMS[-14:]
MOVES = range(8)


def pushed(squares):
    """The squares, pushed so that the least numbers are 0, in the order given."""
    least_x, least_y = min(x for x, _ in squares), min(y for _, y in squares)
    return [(x - least_x, y - least_y) for x, y in squares]


def turned_left(squares):
    """What was east comes north, what was north comes west."""
    return [(y, -x) for x, y in squares]


def places(room, number):
    """Where the SQUARES of room come to be, in the order of room."""
    squares = [(-x, y) for x, y in room] if number >= 4 else list(room)
    for _ in range(number % 4):
        squares = turned_left(squares)
    return pushed(squares)


def floor_by(room, floor, number):
    """The FLOOR moved: each mat is laid on the SQUARES that its own come to be."""
    there = dict(zip(room, places(room, number)))
    kinds = {}
    for square, kind in zip(room, floor):
        mine = there[square]
        kinds[mine] = [k for k in range(5) if (
            k == kind == 0 or (k and kind and partner(mine, k) == there[partner(square, kind)]))][0]
    return tuple(kinds[square] for square in sorted(kinds))


class Moves(unittest.TestCase):
    def test_rooms_moved(self):
        for room in ROOMS + [grown_room(seeded(at), 1 + at) for at in range(50)]:
            for number in MOVES:
                there = places(room, number)
                self.assertEqual(moved(room, number), tuple(sorted(there)))
                self.assertTrue(is_room(moved(room, number)))
                self.assertEqual([square_moved(room, square, number) for square in room], there)
                told = dict(zip(room, there))
                self.assertEqual(rim(moved(room, number)), tuple(sorted(told[square] for square in rim(room))))
                self.assertEqual(len(points(moved(room, number))), len(points(room)))

    def test_the_east_side_comes_to_the_north(self):
        self.assertEqual(moved(((0, 0), (1, 0), (2, 0), (2, 1)), 1), ((0, 0), (0, 1), (0, 2), (1, 0)))
        self.assertEqual([floor_moved(((0, 0), (1, 0)), (1, 3), own) for own in range(8)],
                         [(1, 3), (2, 4), (1, 3), (2, 4), (1, 3), (2, 4), (1, 3), (2, 4)])
        bend = ((0, 0), (0, 1), (1, 1))
        self.assertEqual(floor_moved(bend, (2, 4, 0), 1), (1, 0, 3))
        self.assertEqual(moved(bend, 1), ((0, 1), (1, 0), (1, 1)))

    def test_moves_put_together_and_back(self):
        for room in ROOMS:
            for number in MOVES:
                self.assertEqual(moved(moved(room, number), move_back(number)), moved(room, 0))
                for many in MOVES:
                    both = moves_put(number, many)
                    self.assertEqual(moved(moved(room, number), many), moved(room, both))
                    for square in room[:2]:
                        once = square_moved(room, square, number)
                        self.assertEqual(square_moved(moved(room, number), once, many), square_moved(room, square, both))

    def test_moves_are_a_group(self):
        for one, two, three in itertools.product(MOVES, repeat=3):
            self.assertEqual(moves_put(moves_put(one, two), three), moves_put(one, moves_put(two, three)))
        for number in MOVES:
            self.assertEqual(moves_put(number, move_back(number)), 0)
            self.assertEqual(moves_put(move_back(number), number), 0)
            self.assertEqual([moves_put(0, number), moves_put(number, 0)], [number, number])
            self.assertEqual(sorted(moves_put(number, many) for many in MOVES), list(MOVES))

    def test_no_move(self):
        for number in (8, -1, True, None, "1"):
            for function in (move_back, lambda n: moves_put(n, 0), lambda n: moves_put(0, n),
                             lambda n: moved(boxed(1, 1), n), lambda n: square_moved(boxed(1, 1), (9, 9), n),
                             lambda n: floor_moved(boxed(1, 1), (0,), n)):
                with self.assertRaises(Unfit):
                    function(number)
        with self.assertRaises(NoSquare) as raised:
            square_moved(boxed(1, 1), [9, 9], 7)
        self.assertEqual(raised.exception.square, (9, 9))


class FloorsMoved(unittest.TestCase):
    def test_all_floors_moved_are_all_floors_of_the_room_moved(self):
        for room in ROOMS:
            floors = all_floors(room)
            for number in MOVES:
                there = moved(room, number)
                given = [floor_moved(room, floor, number) for floor in floors]
                self.assertEqual(given, [floor_by(room, floor, number) for floor in floors])
                self.assertEqual(sorted(given), all_floors(there))
                for floor, other in list(zip(floors, given))[:10]:
                    self.assertTrue(is_floor(there, other))
                    self.assertEqual(how_many_half(there, other), how_many_half(room, floor))
                    self.assertEqual(floor_moved(there, other, move_back(number)), floor)
                    for many in MOVES:
                        self.assertEqual(floor_moved(there, other, many),
                                         floor_moved(room, floor, moves_put(number, many)))


class Alike(unittest.TestCase):
    def test_rooms_seen_alike(self):
        rooms = ROOMS[:40]
        for room, other in itertools.product(rooms, repeat=2):
            wanted = any(sorted(places(room, number)) == sorted(pushed(other)) for number in MOVES)
            self.assertIs(seen_alike(room, other), wanted)
            self.assertIs(least_seen(room) == least_seen(other), wanted)

    def test_least_seen_and_moves_of(self):
        for room in ROOMS:
            self.assertEqual(least_seen(room), min(tuple(sorted(places(room, number))) for number in MOVES))
            self.assertEqual(moves_of(room), tuple(
                number for number in MOVES if sorted(places(room, number)) == sorted(pushed(room))))
            self.assertEqual(moves_of(room)[0], 0)
            self.assertEqual(8 % len(moves_of(room)), 0)

    def test_floors_alike(self):
        for room in [room for room in ROOMS if len(room) <= 9]:
            floors = all_floors(room)[:14]
            for floor, other in itertools.product(floors, repeat=2):
                wanted = any(floor_by(room, floor, number) == other for number in moves_of(room))
                self.assertIs(floors_alike(room, floor, other), wanted)
                self.assertIs(floors_alike(room, other, floor), wanted)
            for floor in floors:
                self.assertTrue(floors_alike(room, floor, floor))

    def test_lots_of_floors_alike(self):
        three = boxed(3, 3)
        lots = []
        for floor in all_floors(three):
            home = [lot for lot in lots if floors_alike(three, lot[0], floor)]
            self.assertLessEqual(len(home), 1)
            if home:
                self.assertTrue(all(floors_alike(three, own, floor) for own in home[0]))
                home[0].append(floor)
            else:
                lots.append([floor])
        self.assertEqual(sorted(len(lot) for lot in lots), [2, 4, 8, 8])


if __name__ == "__main__":
    unittest.main()
