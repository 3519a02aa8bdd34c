"""KINDS and what fits [6]."""

import itertools
import unittest

from tatamirooms.errors import CanNot, NoSquare
from tatamirooms.kinds import (
    fits_at, fits_east, fits_south, fitting, is_kind, is_laid, is_spot, joined_with, kinds_at, point_fits, spots,
    spots_at)
from tests import naive
from tests.naive import SMALL_ROOMS, TINY_ROOMS, WIDER_ROOMS, boxed, grown_room, seeded

ROOMS = SMALL_ROOMS + WIDER_ROOMS + [grown_room(seeded(at), 5 + at % 30) for at in range(40)]
FOUR = ((0, 0), (0, 1), (1, 0), (1, 1))


def fits(room, table, spot):
    """Whether KINDS of table fit at spot, by the words of the document."""
    if len(spot) == 1:
        return table[spot[0]] == 0 or naive.partner(spot[0], table[spot[0]]) in room
    if len(spot) == 2:
        return naive.two_fit(spot[0], table[spot[0]], spot[1], table[spot[1]])
    return naive.point_fits(spot[3], table)


class Kinds(unittest.TestCase):
    def test_kinds_that_fit_alone(self):
        for room in ROOMS:
            for square in room:
                wanted = tuple(k for k in range(5) if k == 0 or naive.partner(square, k) in room)
                self.assertEqual(kinds_at(room, square), wanted)
                for kind in range(5):
                    if kind in wanted:
                        self.assertEqual(joined_with(room, square, kind), naive.partner(square, kind))
                    else:
                        with self.assertRaises(CanNot):
                            joined_with(room, square, kind)

    def test_two_that_fit(self):
        for kind, other in itertools.product(range(5), repeat=2):
            self.assertIs(fits_east(kind, other), (kind == 1) == (other == 3))
            self.assertIs(fits_south(kind, other), (kind == 2) == (other == 4))

    def test_points_that_fit(self):
        for kinds in itertools.product(range(5), repeat=4):
            self.assertIs(point_fits(kinds), naive.point_fits((1, 1), dict(zip(FOUR, kinds))))
        self.assertEqual(sum(point_fits(kinds) for kinds in itertools.product(range(5), repeat=4)), 98)

    def test_is_laid(self):
        for room in TINY_ROOMS[:30]:
            self.assertTrue(is_laid(room, (4,) * len(room)))
            self.assertFalse(is_laid(room, (4,) * (len(room) + 1)))
            self.assertFalse(is_laid(room, (4,) * (len(room) - 1)))
            self.assertFalse(is_laid(room, [4] * len(room)))
        self.assertTrue(all(is_kind(kind) for kind in range(5)))
        self.assertFalse(is_laid(((0, 0),), ()))


class Spots(unittest.TestCase):
    def test_all_spots(self):
        for room in ROOMS:
            found = spots(room)
            self.assertEqual(found, naive.spots(room))
            self.assertTrue(all(is_spot(room, spot) for spot in found))
            for square in room:
                self.assertEqual(spots_at(room, square), tuple(spot for spot in found if square in spot))

    def test_what_is_no_spot(self):
        for room in SMALL_ROOMS:
            found = spots(room)
            for many in (1, 2, 3, 4):
                for squares in itertools.islice(itertools.product(room[:4] + ((9, 9),), repeat=many), 60):
                    self.assertIs(is_spot(room, squares), squares in found)

    def test_four_that_are_not_about_a_point(self):
        room = boxed(2, 4)
        self.assertFalse(is_spot(room, ((0, 0), (0, 1), (2, 0), (2, 1))))
        self.assertFalse(is_spot(room, ((0, 0), (0, 1), (1, 1), (1, 0))))
        self.assertFalse(is_spot(room, ((0, 0), (1, 0), (2, 0), (3, 0))))
        self.assertTrue(is_spot(room, ((2, 0), (2, 1), (3, 0), (3, 1))))

    def test_no_square(self):
        for function in (kinds_at, spots_at):
            with self.assertRaises(NoSquare) as raised:
                function(((0, 0), (4, 4)), [1, 1])
            self.assertEqual(raised.exception.square, (1, 1))


class Fitting(unittest.TestCase):
    def test_where_kinds_fit(self):
        for room in TINY_ROOMS[::4]:
            chance = seeded(len(room))
            for _ in range(40):
                laid = tuple(chance.randrange(5) for _ in room)
                table = dict(zip(room, laid))
                told = [fits_at(room, laid, spot) for spot in spots(room)]
                self.assertEqual(told, [fits(room, table, spot) for spot in spots(room)])
                self.assertIs(all(told), naive.is_floor(room, laid))

    def test_the_kinds_with_which_a_spot_fits(self):
        for room in SMALL_ROOMS + WIDER_ROOMS[:2]:
            for spot in spots(room):
                let = [[k for k in range(5) if k == 0 or naive.partner(square, k) in room] for square in spot]
                wanted = [row for row in itertools.product(*let) if fits(room, dict(zip(spot, row)), spot)]
                self.assertEqual(fitting(room, spot), wanted)

    def test_a_point_fits_if_a_mat_has_two_of_its_four(self):
        room = boxed(3, 3)
        for floor in naive.floors(room):
            table = dict(zip(room, floor))
            for spot in spots(room):
                if len(spot) == 4:
                    self.assertTrue(any(naive.partner(square, table[square]) in spot for square in spot))


if __name__ == "__main__":
    unittest.main()
