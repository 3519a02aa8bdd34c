"""Shares of the FLOORS of a ROOM [19]."""

import unittest
from fractions import Fraction
from math import gcd

from tatamirooms.counts import how_many, kinds_many
from tatamirooms.errors import CanNot, NoSquare, TooMany, Unfit
from tatamirooms.floors import all_mats, mats
from tatamirooms.mirrored import floor_moved, moved, square_moved
from tatamirooms.shares import alike_share, half_mean, likeliest, mat_mean, mat_share, share, share_with
from tests.naive import TRIAL_ROOMS, boxed, floors_of, long_cross, low_room, seeded, trials

TWO = boxed(2, 2)
THREE = boxed(3, 3)


def part(found):
    """What a share says; it must be without a common divisor."""
    many, whole = found
    assert isinstance(found, tuple) and whole >= 1 and gcd(many, whole) == 1, found
    return Fraction(many, whole)


class Shares(unittest.TestCase):
    def test_kinds_as_a_trial_of_all_floors(self):
        for room in TRIAL_ROOMS:
            floors = floors_of(room)
            for at, square in enumerate(room):
                row = [floor[at] for floor in floors]
                found = [part(share(room, square, kind)) for kind in range(5)]
                self.assertEqual(found, [Fraction(row.count(kind), len(floors)) for kind in range(5)])
                self.assertEqual(sum(found), 1)
                pairs = sum(row.count(kind) ** 2 for kind in range(5))
                self.assertEqual(part(alike_share(room, square)), Fraction(pairs, len(floors) ** 2))

    def test_with_lets_as_a_trial_of_all_floors(self):
        none = 0
        for room, lets, floors in trials(91, 4):
            for at, square in enumerate(room):
                for kind in range(5):
                    if not floors:
                        none += 1
                        with self.assertRaises(CanNot):
                            share_with(room, lets, square, kind)
                        continue
                    many = sum(floor[at] == kind for floor in floors)
                    self.assertEqual(part(share_with(room, lets, square, kind)), Fraction(many, len(floors)))
        self.assertGreater(none, 1000)

    def test_a_share_of_nothing_is_none_of_one(self):
        self.assertEqual([share(THREE, (0, 0), kind) for kind in (3, 4)], [(0, 1), (0, 1)])
        self.assertEqual(share_with(TWO, (((0, 0), (0,)),), (0, 0), 1), (0, 1))
        self.assertEqual(share_with(TWO, (((0, 0), (0,)),), (0, 0), 0), (1, 1))
        self.assertEqual(likeliest(TWO[:2], 1), ((0, 1), TWO[:2]))

    def test_mats_as_a_trial_of_all_floors(self):
        for room in TRIAL_ROOMS:
            lots = [mats(room, floor) for floor in floors_of(room)]
            found = {mat: part(mat_share(room, mat)) for mat in all_mats(room)}
            for mat, told in found.items():
                self.assertEqual(told, Fraction(sum(mat in lot for lot in lots), len(lots)))
            for square in room:
                self.assertEqual(sum(told for mat, told in found.items() if square in mat), 1)

    def test_a_mat_that_no_floor_has(self):
        # Without LETS there was none in any ROOM tried; what is none of the ROOM's is refused.
        for room in TRIAL_ROOMS + [boxed(4, 5), boxed(6, 6)]:
            for mat in all_mats(room):
                self.assertGreater(part(mat_share(room, mat)), 0)
        for mat in (((2, 0), (3, 0)), ((3, 3),), ((0, 0), (1, 1)), ((1, 0), (0, 0)), ((0, 0), (0, 0)), ()):
            with self.assertRaises(Unfit):
                mat_share(THREE, mat)

    def test_means(self):
        for room in TRIAL_ROOMS:
            floors = floors_of(room)
            half, lain = part(half_mean(room)), part(mat_mean(room))
            self.assertEqual(half, Fraction(sum(floor.count(0) for floor in floors), len(floors)))
            self.assertEqual(lain, Fraction(sum(len(mats(room, floor)) for floor in floors), len(floors)))
            self.assertEqual(half, sum(part(share(room, square, 0)) for square in room))
            self.assertEqual(lain, sum(part(mat_share(room, mat)) for mat in all_mats(room)))
            whole = sum(part(mat_share(room, mat)) for mat in all_mats(room) if len(mat) == 2)
            self.assertEqual(half + 2 * whole, len(room))

    def test_the_likeliest(self):
        for room in TRIAL_ROOMS:
            for kind in range(5):
                found = {square: part(share(room, square, kind)) for square in room}
                told, squares = likeliest(room, kind)
                self.assertEqual(part(told), max(found.values()))
                self.assertEqual(squares, tuple(own for own in room if found[own] == max(found.values())))
                self.assertIsInstance(squares, tuple)

    def test_moved_rooms_have_the_same(self):
        for room in (THREE, boxed(2, 3), ((3, 2), (3, 3), (4, 3), (5, 2), (5, 3), (5, 4)), low_room(seeded(3), 30)):
            floor = floors_of(room)[0] if len(room) < 10 else None
            for number in range(8):
                other = moved(room, number)
                self.assertEqual(half_mean(other), half_mean(room))
                self.assertEqual(mat_mean(other), mat_mean(room))
                for square in room:
                    goal = square_moved(room, square, number)
                    self.assertEqual(share(other, goal, 0), share(room, square, 0))
                    self.assertEqual(alike_share(other, goal), alike_share(room, square))
                if floor:
                    kinds = dict(zip(other, floor_moved(room, floor, number)))
                    for square, kind in zip(room, floor):
                        goal = square_moved(room, square, number)
                        self.assertEqual(share(other, goal, kinds[goal]), share(room, square, kind))

    def test_great_rooms(self):
        for room in (boxed(7, 14), boxed(14, 7), boxed(1, 60), boxed(60, 1), low_room(seeded(7), 98)):
            many = how_many(room)
            square = room[len(room) // 2]
            numbers = kinds_many(room, (), square)
            self.assertEqual([part(share(room, square, kind)) for kind in range(5)],
                             [Fraction(own, many) for own in numbers])
            told, squares = likeliest(room, 0)
            self.assertIn(squares[0], room)
            self.assertEqual(part(share(room, squares[0], 0)), part(told))
            self.assertGreaterEqual(part(told), part(share(room, square, 0)))
            self.assertEqual(2 * part(mat_mean(room)), len(room) + part(half_mean(room)))


class Refused(unittest.TestCase):
    def refused(self, error, function, *told):
        with self.assertRaises(error) as raised:
            function(*told)
        return raised.exception

    def test_in_which_order(self):
        cross = long_cross(8)
        for square in ((1, 1), [1, 1], (-1, 0)):
            for function, ahead, behind in ((share, (), (0,)), (share_with, ((((0, 0), ()),),), (0,)), (alike_share, (), ())):
                error = self.refused(NoSquare, function, cross, *ahead, square, *behind)
                self.assertEqual(error.square, tuple(square))
        for function, told in ((share, ((0, 0), 0)), (share_with, ((((0, 0), ()),), (0, 0), 0)), (mat_share, (((0, 0),),)),
                               (half_mean, ()), (mat_mean, ()), (likeliest, (0,)), (alike_share, ((0, 0),))):
            self.refused(TooMany, function, cross, *told)
            self.refused(Unfit, function, cross[::-1], *told)
        self.refused(Unfit, share, cross, (1, 1), 5)
        self.refused(Unfit, share_with, cross, (), (1, 1), True)
        self.refused(Unfit, share_with, cross, (((1, 1), ()),), (1, 1), 0)
        self.refused(Unfit, mat_share, cross, ((1, 1),))
        self.refused(Unfit, likeliest, cross, -1)
        self.refused(CanNot, share_with, TWO, (((0, 0), (3,)),), (0, 0), 3)
        self.refused(NoSquare, share_with, TWO, (((0, 0), ()),), (0, 2), 3)

    def test_along_either_axis(self):
        for room in (boxed(8, 1), boxed(1, 8), boxed(9, 2), boxed(2, 9)):
            self.assertEqual(sum(part(share(room, room[3], kind)) for kind in range(5)), 1)
        for kind, other in ((0, 0), (1, 2), (2, 1), (3, 4), (4, 3)):
            self.assertEqual(share(boxed(9, 2), (1, 4), kind), share(boxed(2, 9), (4, 1), other))
            told, squares = likeliest(boxed(9, 2), kind)
            self.assertEqual(likeliest(boxed(2, 9), other), (told, tuple(sorted((y, x) for x, y in squares))))

    def test_lists_and_names(self):
        self.assertEqual(share(room=[[0, 0], [0, 1]], square=[0, 1], kind=4), (1, 2))
        self.assertEqual(share_with(room=[[0, 0], [0, 1]], lets=[[[0, 0], [0]]], square=[0, 1], kind=4), (0, 1))
        self.assertEqual(mat_share(room=[[0, 0], [0, 1]], mat=[[0, 0], [0, 1]]), (1, 2))


if __name__ == "__main__":
    unittest.main()
