"""FLOORS drawn by number [18]."""

import unittest

from tatamirooms.counts import by_half, how_many, how_many_with
from tatamirooms.drawn import behind, drawn, drawn_half, evenly, lot_half, lot_of, next_kept
from tatamirooms.errors import Broken, CanNot, TooMany, Unfit
from tatamirooms.floors import courses, is_floor
from tatamirooms.told import greatest_finished, is_finished, least_finished
from tests.naive import (
    TRIAL_ROOMS, boxed, floors_of, long_cross, low_room, seeded, some_lets, trials)

TWO = boxed(2, 2)
HIGH = boxed(8, 1)
NO_NUMBER_OF = (-1, -(10 ** 40), 10 ** 40)


class Drawn(unittest.TestCase):
    def test_numbers_and_floors_tell_one_another(self):
        for room, lets, floors in trials(71, 4):
            self.assertEqual([drawn(room, lets, number) for number in range(len(floors))], floors)
            for number, floor in enumerate(floors):
                self.assertEqual(lot_of(room, lets, floor), number)
            for number in NO_NUMBER_OF + (len(floors), len(floors) + 1):
                with self.assertRaises(Broken) as raised:
                    drawn(room, lets, number)
                self.assertEqual(raised.exception.number, number)
            for floor in floors_of(room):
                if floor not in floors:
                    with self.assertRaises(CanNot):
                        lot_of(room, lets, floor)

    def test_numbers_with_so_many_half_mats(self):
        for room in TRIAL_ROOMS:
            for half in list(range(len(room) + 2)) + [-1, 10 ** 6, 10 ** 40, -(10 ** 40)]:
                floors = [floor for floor in floors_of(room) if floor.count(0) == half]
                self.assertEqual([drawn_half(room, half, number) for number in range(len(floors))], floors)
                for number, floor in enumerate(floors):
                    self.assertEqual(lot_half(room, floor), number)
                for number in NO_NUMBER_OF + (len(floors),):
                    with self.assertRaises(Broken) as raised:
                        drawn_half(room, half, number)
                    self.assertEqual(raised.exception.number, number)

    def test_how_many_stand_behind(self):
        for room, lets, floors in trials(72, 4):
            for floor in floors_of(room)[::2]:
                self.assertEqual(behind(room, lets, floor), sum(own < floor for own in floors))

    def test_the_next_one_that_is_kept(self):
        for room, lets, floors in trials(73, 3):
            for floor in floors_of(room)[::2]:
                later = [own for own in floors if own > floor]
                if later:
                    self.assertEqual(next_kept(room, lets, floor), later[0])
                else:
                    with self.assertRaises(CanNot):
                        next_kept(room, lets, floor)

    def test_evenly(self):
        for room, lets, floors in trials(74, 3):
            for many in (1, 2, 3, 7, 30):
                if floors:
                    self.assertEqual(evenly(room, lets, many), [floors[at * len(floors) // many] for at in range(many)])
                else:
                    with self.assertRaises(CanNot):
                        evenly(room, lets, many)

    def test_with_further_lets_no_number_grows(self):
        chance = seeded(75)
        for room, lets, floors in trials(76, 2):
            less = tuple((square, kinds) for square, kinds in lets if chance.random() < 0.6)
            for floor in floors[::3]:
                self.assertLessEqual(lot_of(room, lets, floor), lot_of(room, less, floor))


class GreatRooms(unittest.TestCase):
    def test_numbers_of_great_rooms(self):
        for at in range(8):
            chance = seeded(80 + at)
            room = low_room(chance, 100 - 5 * at)
            lets = tuple(own for own in some_lets(chance, room) if chance.random() < 0.2 and own[1])
            for given in ((), lets):
                many = how_many_with(room, given)
                for number in {0, many // 2, many // 3, many - 1, chance.randrange(many + 1)}:
                    if 0 <= number < many:
                        floor = drawn(room, given, number)
                        self.assertIs(is_finished(room, given, floor), True)
                        self.assertEqual(lot_of(room, given, floor), number)
                        self.assertEqual(behind(room, given, floor), number)
                        if number + 1 < many:
                            self.assertEqual(next_kept(room, given, floor), drawn(room, given, number + 1))
                if many:
                    self.assertEqual(drawn(room, given, 0), least_finished(room, given))
                    self.assertEqual(drawn(room, given, many - 1), greatest_finished(room, given))

    def test_half_mats_of_great_rooms(self):
        for room in (boxed(7, 14), boxed(5, 20), boxed(1, 61), low_room(seeded(90), 95)):
            for half, count in by_half(room, ())[::7]:
                for number in (0, count // 2, count - 1):
                    floor = drawn_half(room, half, number)
                    self.assertTrue(is_floor(room, floor))
                    self.assertEqual((floor.count(0), lot_half(room, floor)), (half, number))
                with self.assertRaises(Broken):
                    drawn_half(room, half, count)

    def test_a_thousand_evenly(self):
        room = boxed(7, 14)
        many = how_many(room)
        floors = evenly(room, (), 1000)
        self.assertEqual(len(floors), 1000)
        self.assertEqual(floors, sorted(set(floors)))
        for at in (0, 1, 500, 999):
            self.assertEqual(lot_of(room, (), floors[at]), at * many // 1000)
        self.assertEqual(evenly(TWO, (), 1000)[166:168], [(0, 0, 2, 4), (0, 1, 0, 3)])
        self.assertEqual(evenly(((0, 0),), (), 1), [(0,)])


class Refused(unittest.TestCase):
    ASKED = ((drawn, ((), 0)), (lot_of, ((), (0,) * 8)), (drawn_half, (0, 0)), (lot_half, ((0,) * 8,)),
             (behind, ((), (0,) * 8)), (next_kept, ((), (0,) * 8)), (evenly, ((), 5)))

    def test_too_many_stands_behind_unfit_ahead_of_the_others(self):
        for function, told in self.ASKED:
            with self.assertRaises(TooMany):
                function(HIGH, *told)
            with self.assertRaises(Unfit):
                function(HIGH[::-1], *told)
            for at in range(len(told)):
                with self.assertRaises(Unfit):
                    function(HIGH, *told[:at], None, *told[at + 1:])
        nothing = (((0, 0), ()),)
        for function, told in ((drawn, (nothing, -1)), (lot_of, (nothing, (0,) * 8)), (drawn_half, (-5, -1)),
                               (next_kept, (nothing, (0,) * 8)), (evenly, (nothing, 1000))):
            with self.assertRaises(TooMany):
                function(HIGH, *told)
            with self.assertRaises(TooMany):
                function(long_cross(8), *[courses(long_cross(8), 0) if own == (0,) * 8 else own for own in told])

    def test_how_many_evenly(self):
        for many in (0, 1001, -1, 10 ** 6, True, None, "5", (5,)):
            with self.assertRaises(Unfit):
                evenly(TWO, (), many)
            with self.assertRaises(Unfit):
                evenly(TWO, (((0, 0), ()),), many)
        with self.assertRaises(CanNot):
            evenly(TWO, (((0, 0), ()),), 1000)

    def test_numbers_that_tell_none(self):
        lets = (((0, 0), ()),)
        with self.assertRaises(Broken) as raised:
            drawn(TWO, lets, 0)
        self.assertEqual(raised.exception.number, 0)
        for told in ((lets, True), (lets, 1.0), ((((0, 2), ()),), 0)):
            with self.assertRaises(Unfit):
                drawn(TWO, *told)
        for told in ((lets, (0, 0, 0, 0)), (lets, (1, 1, 3)), (lets, None)):
            for function in (lot_of, behind, next_kept):
                with self.assertRaises(Unfit):
                    function(TWO, *told)
        self.assertEqual(behind(TWO, lets, (2, 4, 2, 4)), 0)
        with self.assertRaises(CanNot):
            next_kept(TWO, lets, (0, 0, 2, 4))


if __name__ == "__main__":
    unittest.main()
