"""What LETS tell already [17]."""

import itertools
import unittest

from tatamirooms.columns import reaches
from tatamirooms.errors import CanNot, NoSquare, TooMany, Unfit
from tatamirooms.floors import is_floor, mats
from tatamirooms.told import (
    can_be, can_finish, finished, greatest_finished, is_finished, is_sure, is_why_not, least_finished, sure, sure_mats,
    why_not)
from tests.naive import (
    TRIAL_ROOMS, boxed, floors_of, kept_by, listed, long_cross, low_room, seeded, some_lets, trials)

TWO = boxed(2, 2)
HIGH = boxed(8, 1)


class Finished(unittest.TestCase):
    def test_as_a_trial_of_all_floors(self):
        for room, lets, floors in trials(61, 6):
            self.assertIs(can_finish(room, lets), bool(floors))
            if floors:
                self.assertIn(finished(room, lets), floors)
                self.assertEqual((least_finished(room, lets), greatest_finished(room, lets)), (floors[0], floors[-1]))
            else:
                for function in (finished, least_finished, greatest_finished, can_be, sure, sure_mats):
                    with self.assertRaises(CanNot):
                        function(room, lets)

    def test_is_finished_over_all_floors(self):
        for room, lets, floors in trials(62, 2):
            for floor in floors_of(room)[:50]:
                self.assertIs(is_finished(room, lets, floor), floor in floors)
                self.assertIs(is_finished(room, lets, list(floor)), False)
        for room in [room for room in TRIAL_ROOMS if len(room) <= 3]:
            for laid in itertools.product(range(5), repeat=len(room)):
                self.assertIs(is_finished(room, (), laid), laid in floors_of(room))

    def test_is_finished_in_rooms_of_any_height(self):
        great = boxed(10, 10)
        self.assertIs(is_finished(great, (), (0,) * 100), False)
        self.assertIs(is_finished(HIGH, (((0, 3), (0, 2)),), (0,) * 8), True)
        self.assertIs(is_finished(HIGH, (((0, 3), (2,)),), (0,) * 8), False)


class Sure(unittest.TestCase):
    def test_as_a_trial_of_all_floors(self):
        for room, lets, floors in trials(63, 5):
            if floors:
                seen = [tuple(sorted({floor[at] for floor in floors})) for at in range(len(room))]
                self.assertEqual(can_be(room, lets), tuple(zip(room, seen)))
                self.assertEqual(sure(room, lets), tuple(
                    (square, kinds[0]) for square, kinds in zip(room, seen) if len(kinds) == 1))
                everywhere = set.intersection(*[set(mats(room, floor)) for floor in floors])
                self.assertEqual(sure_mats(room, lets), tuple(sorted(everywhere)))

    def test_is_sure(self):
        for room, lets, floors in trials(64, 2):
            for at, square in enumerate(room):
                for kind in range(5):
                    wanted = all(floor[at] == kind for floor in floors)
                    self.assertIs(is_sure(room, lets, square, kind), wanted)

    def test_can_be_are_the_least_lets_with_these_floors(self):
        for room, lets, floors in trials(65, 3):
            if floors:
                found = can_be(room, lets)
                self.assertEqual(kept_by(floors_of(room), room, found), floors)
                table = dict(lets)
                self.assertTrue(all(set(kinds) <= set(table.get(square, range(5))) for square, kinds in found))
                self.assertEqual(can_be(room, found), found)
                for at, (square, kinds) in enumerate(found):
                    for kind in kinds:
                        less = found[:at] + ((square, tuple(k for k in kinds if k != kind)),) + found[at + 1:]
                        self.assertNotEqual(kept_by(floors_of(room), room, less), floors)


class WhyNot(unittest.TestCase):
    def test_told_exactly_where_nothing_can_be_finished(self):
        for room, lets, floors in trials(66, 5):
            right = reaches(room, lets)
            if floors:
                with self.assertRaises(CanNot):
                    why_not(room, lets)
            else:
                self.assertEqual(why_not(room, lets), right)
                self.assertEqual(right[-1], ())
            self.assertIs(is_why_not(room, lets, right), not floors)
            shut = ((),) * len(right)
            for thing in (shut, right + ((),), list(right), listed(right), None, (), 7, "no", right[:-1]):
                self.assertIs(is_why_not(room, lets, thing), not floors and repr(thing) == repr(right))

    def test_numbers_alone_are_kinds(self):
        lets = (((0, 0), (0,)), ((1, 1), (0,)))
        self.assertIs(is_why_not(TWO, lets, (((0, 0), (0, 1)), ())), True)
        for thing in ((((0, 0), (0, True)), ()), (((False, 0), (0, 1)), ()), (([0, 0], (0, 1)), ()), (((0, 0), (0, 1)), [])):
            self.assertIs(is_why_not(TWO, lets, thing), False)


class Edges(unittest.TestCase):
    def test_one_square(self):
        lone = ((4, 2),)
        self.assertEqual([can_be(lone, ()), sure(lone, ()), sure_mats(lone, ())],
                         [((lone[0], (0,)),), ((lone[0], 0),), (lone,)])
        self.assertEqual(why_not(lone, ((lone[0], (1, 2)),)), ((),))
        self.assertEqual([is_sure(lone, (), lone[0], kind) for kind in range(5)], [True] + [False] * 4)
        self.assertEqual([is_sure(lone, ((lone[0], ()),), lone[0], kind) for kind in range(5)], [True] * 5)

    def test_great_rooms(self):
        for at in range(10):
            room, chance = low_room(seeded(at), 100 - 2 * at), seeded(70 + at)
            least, greatest = least_finished(room, ()), greatest_finished(room, ())
            self.assertTrue(is_floor(room, least) and is_floor(room, greatest) and least <= greatest)
            lets = tuple(own for own in some_lets(chance, room) if chance.random() < 0.3 and own[1])
            if can_finish(room, lets):
                floor = finished(room, lets)
                self.assertIs(is_finished(room, lets, floor), True)
                found = dict(can_be(room, lets))
                for square, kind in sure(room, lets):
                    self.assertEqual(found[square], (kind,))
                    self.assertIs(is_sure(room, lets, square, kind), True)
                self.assertTrue(set(sure_mats(room, lets)) <= set(mats(room, floor)))
                self.assertTrue(all(kind in found[square] for square, kind in zip(room, greatest_finished(room, lets))))
            else:
                self.assertIs(is_why_not(room, lets, why_not(room, lets)), True)


class Refused(unittest.TestCase):
    ASKED = ((can_finish, ()), (finished, ()), (least_finished, ()), (greatest_finished, ()), (can_be, ()), (sure, ()),
             (sure_mats, ()), (is_sure, ((0, 0), 0)), (why_not, ()), (is_why_not, (None,)))

    def test_too_many_stands_between_unfit_and_cannot(self):
        for function, more in self.ASKED:
            for room in (HIGH, long_cross(8), boxed(8, 2)):
                for lets in ((), (((0, 0), ()),)):
                    with self.assertRaises(TooMany):
                        function(room, lets, *more)
                with self.assertRaises(Unfit):
                    function(room, (((1, 1), (7,)),), *more)
            if function is not why_not:
                function(boxed(7, 1), (), *more)
                function(boxed(1, 61), (), *more)

    def test_no_square_stands_behind_unfit_ahead_of_too_many(self):
        for square in ((1, 1), [1, 1], (-1, 0)):
            with self.assertRaises(NoSquare) as raised:
                is_sure(HIGH, (), square, 4)
            self.assertEqual(raised.exception.square, tuple(square))
        for told in (((), (1, 1), 5), ((), (1, 1), True), ((), (1, True), 0), (None, (1, 1), 0)):
            with self.assertRaises(Unfit):
                is_sure(HIGH, *told)


if __name__ == "__main__":
    unittest.main()
