"""Where FLOORS are unlike, and DIAGONALS [11]."""

import itertools
import unittest

from tatamirooms.errors import CanNot, NoSquare, TooMany, Unfit
from tatamirooms.floors import all_floors, courses, mats
from tatamirooms.mirrored import floor_moved, moved, square_moved
from tatamirooms.unlike import (
    diagonal, far_apart, firsts, is_diagonal, nearest, rim_unlike, unlike, ways_out)
from tests import naive
from tests.naive import SMALL_ROOMS, TINY_ROOMS, WIDER_ROOMS, boxed, long_cross, seeded

CORNERS = [(i, j) for i in (-1, 1) for j in (-1, 1)]
PILLAR = tuple(s for s in boxed(5, 5) if s != (1, 1))
TWO_PIECES = tuple(sorted(boxed(3, 3) + tuple((x + 4, y + 1) for x, y in boxed(2, 2))))
ROOMS = TINY_ROOMS[::6] + SMALL_ROOMS[-14:] + WIDER_ROOMS + [boxed(4, 4), boxed(5, 5), PILLAR, TWO_PIECES]
RIMS = {room: set(naive.rim(room)) for room in ROOMS}


def pairs_of_floors(chance, room, most):
    """So many pairs of FLOORS of room, or all of them."""
    floors = all_floors(room)
    if len(floors) ** 2 <= most:
        return list(itertools.product(floors, floors))
    return [(chance.choice(floors), chance.choice(floors)) for _ in range(most)]


def cases(most):
    """Triples of a ROOM and two FLOORS of it, the same ones each time."""
    chance = seeded(21)
    return [(room, one, two) for room in ROOMS for one, two in pairs_of_floors(chance, room, most)]


def diagonal_squares(room, one, two, square, way):
    """The SQUARES of the DIAGONAL from square by way, by the words of the document; None if there is none."""
    differ = {s for s, a, b in zip(room, one, two) if a != b}
    found = [square]
    while found[-1] not in RIMS[room]:
        x, y = found[-1]
        found.append((x + way[0], y + way[1]))
    return tuple(found) if set(found) <= differ else None


class Unlike(unittest.TestCase):
    def test_squares_of_another_kind(self):
        for room, one, two in cases(60):
            wanted = tuple(s for s in room if dict(zip(room, one))[s] != dict(zip(room, two))[s])
            self.assertEqual(unlike(room, one, two), wanted)
            self.assertEqual(unlike(room, two, one), wanted)
            self.assertEqual(far_apart(room, one, two), len(wanted))
            self.assertEqual(rim_unlike(room, one, two), tuple(s for s in wanted if s in RIMS[room]))
            self.assertEqual(bool(rim_unlike(room, one, two)), one != two)

    def test_a_mat_of_one_alone_has_both_squares_unlike(self):
        for room, one, two in cases(20):
            differ = unlike(room, one, two)
            for mat in set(mats(room, one)) ^ set(mats(room, two)):
                self.assertTrue(set(mat) <= set(differ))

    def test_firsts(self):
        for room, one, two in cases(40):
            differ = unlike(room, one, two)
            for i, j in CORNERS:
                wanted = tuple(s for s in differ if all(i * s[0] + j * s[1] <= i * x + j * y for x, y in differ))
                self.assertEqual(firsts(room, one, two, (i, j)), wanted)
                self.assertEqual(wanted == (), one == two)


class Diagonals(unittest.TestCase):
    def test_diagonals_by_the_words(self):
        for room, one, two in cases(25):
            for square in room:
                known = {way: diagonal_squares(room, one, two, square, way) for way in CORNERS}
                ways = tuple(way for way in CORNERS if known[way])
                self.assertEqual(ways_out(room, one, two, square), ways)
                for way in CORNERS:
                    self.assertIs(is_diagonal(room, one, two, (square, way)), known[way] is not None)
                if ways:
                    self.assertEqual(diagonal(room, one, two, square), known[min(ways)])
                else:
                    with self.assertRaises(CanNot):
                        diagonal(room, one, two, square)

    def test_from_each_of_the_firsts_one_goes_to_the_rim(self):
        inner = 0
        for room, one, two in cases(200):
            for i, j in CORNERS:
                for square in firsts(room, one, two, (i, j)):
                    ways = ways_out(room, one, two, square)
                    self.assertNotEqual(ways, ())
                    self.assertIn(diagonal(room, one, two, square)[-1], RIMS[room])
                    if square not in RIMS[room]:
                        inner += 1
                        self.assertNotIn((-i, -j), ways)
        self.assertGreater(inner, 50)

    def test_from_the_rim_by_all_ways(self):
        for room, one, two in cases(20):
            for square in sorted(RIMS[room]):
                self.assertEqual(ways_out(room, one, two, square), tuple(CORNERS) if square in unlike(
                    room, one, two) else ())

    def test_turned_with_the_floors(self):
        chance = seeded(22)
        for room in (boxed(5, 5), PILLAR):
            for one, two in pairs_of_floors(chance, room, 25):
                for number in range(8):
                    there = [floor_moved(room, floor, number) for floor in (one, two)]
                    for square in room:
                        turned = []
                        for x, y in ways_out(room, one, two, square):
                            x = -x if number >= 4 else x
                            for _ in range(number % 4):
                                x, y = y, -x
                            turned.append((x, y))
                        self.assertEqual(ways_out(moved(room, number), *there, square_moved(room, square, number)),
                                         tuple(sorted(turned)))

    def test_what_is_no_diagonal(self):
        room, one, two = boxed(3, 3), (0, 0, 1, 2, 4, 3, 0, 2, 4), (2, 4, 1, 2, 4, 3, 0, 2, 4)
        self.assertTrue(is_diagonal(room, one, two, ((0, 0), (1, -1))))
        for thing in ([(0, 0), (1, -1)], ((0, 0), [1, -1]), ([0, 0], (1, -1)), ((0, 0), (1, 0)), ((0, 0), (True, -1)),
                      ((0, False), (1, -1)), ((0, 0), (1, -1), ()), ((0, 0),), ((3, 3), (1, 1)), ((-1, 0), (1, 1)),
                      ((0, 0), (2, 2)), None, 7, "ab", ((0, 0), None), (((0, 0), (1, -1)),)):
            self.assertIs(is_diagonal(room, one, two, thing), False)


class Nearest(unittest.TestCase):
    def test_nearest_is_what_a_trial_of_all_floors_gives(self):
        for room in ROOMS:
            floors = naive.floors(room) if len(room) <= 12 else all_floors(room)
            for floor in floors[::7] + floors[-1:]:
                others = [own for own in floors if own != floor]
                apart = {own: sum(a != b for a, b in zip(floor, own)) for own in others}
                fewest = min(apart.values(), default=0)
                wanted = [own for own in others if apart[own] == fewest]
                self.assertEqual(nearest(room, floor), wanted)

    def test_one_floor_alone(self):
        self.assertEqual(nearest(((3, 4),), (0,)), [])
        self.assertEqual(nearest(((0, 0), (1, 1)), [0, 0]), [])

    def test_too_many(self):
        for room in (long_cross(8), boxed(1, 17), boxed(17, 1), boxed(8, 8), boxed(7, 14)):
            with self.assertRaises(TooMany):
                nearest(room, courses(room, 0))
            with self.assertRaises(Unfit):
                nearest(room, courses(room, 0)[1:])
        self.assertEqual(len(nearest(boxed(1, 16), (0,) * 16)), 15)
        self.assertEqual(nearest(boxed(16, 1), (0,) * 16), [
            (0,) * at + (2, 4) + (0,) * (14 - at) for at in range(14, -1, -1)])


class Refused(unittest.TestCase):
    def test_no_square_stands_behind_unfit(self):
        room, one, two = boxed(2, 2), (1, 1, 3, 3), (2, 4, 2, 4)
        for function in (ways_out, diagonal):
            with self.assertRaises(NoSquare) as raised:
                function(room, one, one, [2, 0])
            self.assertEqual(raised.exception.square, (2, 0))
            for told in (((), one, two, (2, 0)), (room, (0,) * 4, two, (2, 0)), (room, one, (0,) * 4, (2, 0)),
                         (room, one, two, (2, True))):
                with self.assertRaises(Unfit):
                    function(*told)
        with self.assertRaises(CanNot):
            diagonal(room, one, one, (0, 0))

    def test_corners(self):
        room, one, two = boxed(2, 2), (1, 1, 3, 3), (2, 4, 2, 4)
        for corner in ((0, 1), (1, 2), (1,), (1, 1, 1), 1, None, (True, 1), "ab", ((1, 1),)):
            with self.assertRaises(Unfit):
                firsts(room, one, two, corner)
        self.assertEqual(firsts(room, one, two, [-1, 1]), ((1, 0),))


if __name__ == "__main__":
    unittest.main()
