"""Square ROOMS [13]."""

import itertools
import unittest

from tatamirooms.errors import CanNot, TooMany, Unfit
from tatamirooms.floors import all_floors, courses
from tatamirooms.squares import (
    square_all, square_by_row, square_count, square_floor, square_half_sum, square_halves, square_least, square_next,
    square_number)
from tests import naive
from tests.naive import boxed

FLOORS = {many: naive.floors(boxed(many, many)) for many in range(1, 5)}
FLOORS.update({many: all_floors(boxed(many, many)) for many in (5, 6, 7)})


def with_half(many, half):
    return [floor for floor in FLOORS[many] if floor.count(0) == half]


class Formula(unittest.TestCase):
    def test_all_floors_are_counted(self):
        for many, floors in FLOORS.items():
            counts = {half: len(with_half(many, half)) for half in range(many * many + 3)}
            for half, count in counts.items():
                self.assertEqual(square_count(many, half), count)
            self.assertEqual(square_all(many), len(floors))
            self.assertEqual(square_halves(many), [(half, count) for half, count in counts.items() if count])
            self.assertEqual(square_half_sum(many), sum(floor.count(0) for floor in floors))

    def test_as_the_theorem_says(self):
        for many in range(1, 41):
            for half in range(many + 4):
                wanted = half * 2 ** half + (half + 1) * 2 ** (half + 1) if (many - half) % 2 == 0 else 0
                wanted = many * 2 ** (many - 1) if half == many else 0 if half > many else wanted
                self.assertEqual(square_count(many, half), wanted)
            self.assertEqual(square_all(many), sum(square_count(many, half) for half in range(many + 1)))
        self.assertEqual([square_all(many) for many in range(1, 7)], [1, 6, 22, 66, 178, 450])

    def test_great_squares(self):
        great = 10 ** 6
        self.assertEqual(square_count(great, great), great << great - 1)
        self.assertEqual(square_count(great, great - 2), (great - 2 << great - 2) + (great - 1 << great - 1))
        self.assertEqual([square_count(great, half) for half in (0, 1, 2, great - 1, great + 2, 10 ** 40)],
                         [2, 0, 32, 0, 0, 0])
        self.assertTrue(square_all(great) == (3 * great - 4 << great - 1) + 2)
        self.assertEqual(square_count(great + 1, 1), 10)

    def test_lists_up_to_two_thousand(self):
        pairs = square_halves(2000)
        self.assertEqual([half for half, _ in pairs], list(range(0, 2001, 2)))
        self.assertEqual(sum(count for _, count in pairs), square_all(2000))
        self.assertEqual(square_half_sum(2000), sum(half * count for half, count in pairs))
        self.assertEqual([half for half, _ in square_halves(1999)], list(range(1, 2000, 2)))
        for many in (2001, 10 ** 6, 10 ** 40):
            for function in (square_halves, square_half_sum):
                with self.assertRaises(TooMany):
                    function(many)

    def test_the_least_side(self):
        for number in list(range(500)) + [10 ** far + more for far in range(41) for more in (-1, 0, 1)]:
            many = square_least(number)
            self.assertGreaterEqual(square_all(many), number)
            self.assertTrue(many == 1 or square_all(many - 1) < number)
        for many in range(1, 130):
            self.assertEqual([square_least(square_all(many)), square_least(square_all(many) + 1)], [many, many + 1])


class Numbered(unittest.TestCase):
    def test_floors_and_numbers_tell_one_another(self):
        for many in range(1, 6):
            for half in range(many + 3):
                floors = with_half(many, half)
                self.assertEqual([square_floor(many, half, number) for number in range(len(floors))], floors)
                for number, floor in enumerate(floors):
                    self.assertEqual(square_number(many, floor), (half, number))
                for number in (len(floors), len(floors) + 1, 10 ** 40):
                    with self.assertRaises(CanNot):
                        square_floor(many, half, number)

    def test_long_sides(self):
        for many in (6, 7):
            for half in range(many % 2, many + 1, 2):
                floors = with_half(many, half)
                for number in range(0, len(floors), 1 + len(floors) // 9):
                    self.assertEqual(square_floor(many, half, number), floors[number])
                    self.assertEqual(square_number(many, floors[number]), (half, number))
                self.assertEqual(square_floor(many, half, len(floors) - 1), floors[-1])

    def test_the_next_one(self):
        for many in range(1, 6):
            for half in range(many % 2, many + 1, 2):
                floors = with_half(many, half)
                for floor, other in zip(floors, floors[1:]):
                    self.assertEqual(square_next(many, floor), other)
                with self.assertRaises(CanNot):
                    square_next(many, floors[-1])

    def test_by_the_first_row(self):
        for many in range(1, 5):
            for half in range(many + 2):
                for kinds in itertools.product(range(5), repeat=many):
                    wanted = sum(floor[:many] == kinds for floor in with_half(many, half))
                    self.assertEqual(square_by_row(many, half, kinds), wanted)
        for many in (5, 7):
            for kinds in sorted({floor[:many] for floor in FLOORS[many]})[::6]:
                for half in range(many + 1):
                    wanted = sum(floor[:many] == kinds for floor in with_half(many, half))
                    self.assertEqual(square_by_row(many, half, kinds), wanted)


class Refused(unittest.TestCase):
    def test_sides_above_seven(self):
        for many in (8, 9, 10 ** 6, 10 ** 40):
            for told in ((0, 0), (0, 10 ** 40), (10 ** 40, 0)):
                with self.assertRaises(TooMany):
                    square_floor(many, *told)
            for told in ((-1, 0), (0, -1), (True, 0), (0, None)):
                with self.assertRaises(Unfit):
                    square_floor(many, *told)
        for function in (square_number, square_next):
            with self.assertRaises(TooMany):
                function(8, courses(boxed(8, 8), 0))
            for floor in ((0,) * 64, (2, 4) * 31, None, courses(boxed(8, 8), 0)[:63] + (True,)):
                with self.assertRaises(Unfit):
                    function(8, floor)
            for many in (10 ** 6, 10 ** 40):
                with self.assertRaises(Unfit):
                    function(many, (0,))
        with self.assertRaises(TooMany):
            square_by_row(8, 0, (0,) * 8)
        for kinds in ((0,) * 7, (0,) * 9, (5,) * 8, (True,) * 8, None):
            with self.assertRaises(Unfit):
                square_by_row(8, 0, kinds)

    def test_cannot_stands_behind_unfit(self):
        for told in ((2, 1, True), (2, -1, 0), (0, 1, 0), (2, "1", 0)):
            with self.assertRaises(Unfit):
                square_floor(*told)
        with self.assertRaises(CanNot):
            square_floor(2, 10 ** 40, 0)
        with self.assertRaises(Unfit):
            square_next(2, (0, 0, 0, 0))


if __name__ == "__main__":
    unittest.main()
