"""FLOORS in order [23]."""

import itertools
import unittest

from tatamirooms.counts import how_many
from tatamirooms.drawn import drawn, lot_of
from tatamirooms.errors import Broken, CanNot, TooMany, Unfit
from tatamirooms.floors import courses
from tatamirooms.numbered import (
    first_floor, floor_ahead, floor_at, floor_number, floors_from, greatest_with, last_floor, least_with, many_begin,
    many_between, next_floor, told_by)
from tests.naive import TRIAL_ROOMS, boxed, floors_of, listed, low_room, seeded

TWO = boxed(2, 2)
HIGH = boxed(8, 1)
LONE = ((3, 3),)


class Numbers(unittest.TestCase):
    def test_numbers_and_floors_tell_one_another(self):
        for room in TRIAL_ROOMS:
            floors = list(floors_of(room))
            self.assertEqual(floors, sorted(floors))
            self.assertEqual([floor_at(room, number) for number in range(len(floors))], floors)
            self.assertEqual([floor_number(room, floor) for floor in floors], list(range(len(floors))))
            self.assertEqual((first_floor(room), last_floor(room)), (floors[0], floors[-1]))
            for number in (-1, -len(floors), len(floors), len(floors) + 1, 10 ** 40, -(10 ** 40)):
                with self.assertRaises(Broken) as raised:
                    floor_at(room, number)
                self.assertEqual(raised.exception.number, number)

    def test_the_numbers_of_drawn_without_lets(self):
        for room in (boxed(7, 14), boxed(5, 20), low_room(seeded(141), 95), boxed(1, 61)):
            many = how_many(room)
            chance = seeded(142)
            for number in [0, many - 1] + [chance.randrange(many) for _ in range(4)]:
                floor = floor_at(room, number)
                self.assertEqual(floor, drawn(room, (), number))
                self.assertEqual((floor_number(room, floor), lot_of(room, (), floor)), (number, number))
                self.assertLess(told_by(room, floor), len(room))
                self.assertEqual(many_begin(room, floor[:told_by(room, floor)]), 1)
                self.assertGreater(many_begin(room, floor[:told_by(room, floor) - 1]), 1)
                if number + 1 < many:
                    self.assertEqual(floor_ahead(room, next_floor(room, floor)), floor)

    def test_next_to_one_another(self):
        for room in TRIAL_ROOMS:
            floors = list(floors_of(room))
            for floor, other in zip(floors, floors[1:]):
                self.assertEqual(next_floor(room, floor), other)
                self.assertEqual(floor_ahead(room, other), floor)
            with self.assertRaises(CanNot):
                next_floor(room, floors[-1])
            with self.assertRaises(CanNot):
                floor_ahead(room, floors[0])

    def test_from_one_on(self):
        for room in TRIAL_ROOMS:
            floors = list(floors_of(room))
            for at in range(0, len(floors), 3):
                for many in (0, 1, 2, 5, 200):
                    found = floors_from(room, floors[at], many)
                    self.assertEqual(found, floors[at:at + many])
                    found.append(None)
                    self.assertEqual(floors_from(room, floors[at], many), floors[at:at + many])
            for many in (201, 10 ** 6):
                with self.assertRaises(TooMany):
                    floors_from(room, floors[-1], many)
        long = boxed(1, 20)
        self.assertEqual(len(floors_from(long, (0,) * 20, 200)), 200)
        self.assertEqual(len(set(floors_from(long, (0,) * 20, 200))), 200)

    def test_between(self):
        for room in TRIAL_ROOMS[::3]:
            floors = floors_of(room)[:30]
            for at, other in itertools.product(range(len(floors)), repeat=2):
                self.assertEqual(many_between(room, floors[at], floors[other]), max(abs(at - other) - 1, 0))
        self.assertEqual([many_between(TWO, (0, 0, 2, 4), own) for own in floors_of(TWO)], [0, 0, 1, 2, 3, 4])
        self.assertEqual(many_between(LONE, (0,), (0,)), 0)


class Begin(unittest.TestCase):
    def test_as_the_list_of_all_floors(self):
        for room in TRIAL_ROOMS:
            floors = floors_of(room)
            begins = {floor[:many] for floor in floors for many in range(len(room) + 1)}
            begins |= {begin[:-1] + (kind,) for begin in sorted(begins)[::5] if begin for kind in range(5)}
            for begin in sorted(begins)[::2] + [()]:
                wanted = [floor for floor in floors if floor[:len(begin)] == begin]
                self.assertEqual(many_begin(room, begin), len(wanted))
                if wanted:
                    self.assertEqual(least_with(room, begin), wanted[0])
                    self.assertEqual(greatest_with(room, begin), wanted[-1])
                else:
                    for function in (least_with, greatest_with):
                        with self.assertRaises(CanNot):
                            function(room, begin)
                if len(begin) < len(room):
                    self.assertEqual(len(wanted), sum(many_begin(room, begin + (kind,)) for kind in range(5)))

    def test_no_kinds_and_more_than_the_squares(self):
        for room in TRIAL_ROOMS[::2]:
            floors = floors_of(room)
            self.assertEqual(many_begin(room, ()), len(floors))
            self.assertEqual((least_with(room, ()), greatest_with(room, [])), (floors[0], floors[-1]))
            for more in ((0,), (4,), (0,) * 100, (0, 1, 2)):
                self.assertEqual(many_begin(room, floors[0] + more), 0)
                for function in (least_with, greatest_with):
                    with self.assertRaises(CanNot):
                        function(room, floors[0] + more)

    def test_with_how_many_one_is_told(self):
        for room in TRIAL_ROOMS:
            floors = floors_of(room)
            for floor in floors:
                wanted = min(many for many in range(len(room) + 1)
                             if sum(own[:many] == floor[:many] for own in floors) == 1)
                self.assertEqual(told_by(room, floor), wanted)
                self.assertLess(wanted, len(room))
        self.assertEqual(told_by(LONE, (0,)), 0)
        self.assertEqual(told_by(((0, 0), (1, 1)), (0, 0)), 0)


class Refused(unittest.TestCase):
    def test_in_which_order(self):
        floor = courses(HIGH, 0)
        asked = ((floor_at, (-1,)), (floor_number, (floor,)), (many_begin, ((),)), (least_with, ((3,),)),
                 (greatest_with, ((0,) * 9,)), (first_floor, ()), (last_floor, ()), (next_floor, (floor,)),
                 (floor_ahead, (floor,)), (floors_from, (floor, 201)), (many_between, (floor, floor)), (told_by, (floor,)))
        for function, told in asked:
            with self.assertRaises(TooMany):
                function(HIGH, *told)
            with self.assertRaises(Unfit):
                function(HIGH[::-1], *told)
            for at in range(len(told)):
                with self.assertRaises(Unfit):
                    function(HIGH, *told[:at], "no", *told[at + 1:])
        # One COLUMN too long is too many, however short the rows are; a long row is not.
        for function, told in asked[5:7]:
            self.assertEqual(len(function(boxed(1, 60), *told)), 60)
        for wrong in ((0, 0, 0, 0), (0, 0, 2), None, (2, 4, 2, True)):
            for function, more in ((floor_number, ()), (next_floor, ()), (floor_ahead, ()), (floors_from, (201,)),
                                   (many_between, ((0, 0, 2, 4),)), (told_by, ())):
                with self.assertRaises(Unfit):
                    function(TWO, wrong, *more)
            with self.assertRaises(Unfit):
                many_between(TWO, (0, 0, 2, 4), wrong)
        for many in (-1, True, None, "5", 1.0):
            with self.assertRaises(Unfit):
                floors_from(TWO, (0, 0, 2, 4), many)
        for kinds in ((5,), (-1,), (True,), None, 0, "0", (0,) * 9 + (5,)):
            for function in (many_begin, least_with, greatest_with):
                with self.assertRaises(Unfit):
                    function(TWO, kinds)

    def test_lists_and_names(self):
        self.assertEqual(floors_from(room=listed(TWO), floor=[2, 4, 0, 0], many=1), [(2, 4, 0, 0)])
        self.assertEqual(many_begin(room=listed(TWO), kinds=[0]), 2)
        self.assertEqual(many_between(room=listed(TWO), floor=[2, 4, 0, 0], other=[0, 0, 2, 4]), 3)


if __name__ == "__main__":
    unittest.main()
