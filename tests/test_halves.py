"""Half mats of FLOORS that keep LETS [12]."""

import itertools
import unittest

from tatamirooms.errors import CanNot, TooMany, Unfit
from tatamirooms.floors import all_floors, courses, is_floor
from tatamirooms.halves import (
    can_be_half, fewest_half, halves, is_with_half, most_half, nearest_half, never_half, with_half)
from tatamirooms.mirrored import moved
from tests import naive
from tests.naive import (
    SMALL_ROOMS, TRIAL_ROOMS, WIDER_ROOMS, boxed, floors_of, kept_by, listed, long_cross, low_room, seeded, some_lets,
    trials)

THREE = boxed(3, 3)


class Halves(unittest.TestCase):
    def test_as_a_trial_of_all_floors(self):
        none = 0
        for room, lets, floors in trials(31, 5):
            counts = sorted({floor.count(0) for floor in floors})
            self.assertEqual(halves(room, lets), tuple(counts))
            none += not counts
            if counts:
                self.assertEqual((fewest_half(room, lets), most_half(room, lets)), (counts[0], counts[-1]))
                for number in list(range(-2, len(room) + 3)) + [-10 ** 40, 10 ** 40, 10 ** 6]:
                    wanted = min(counts, key=lambda own: (abs(own - number), own))
                    self.assertEqual(nearest_half(room, lets, number), wanted)
            else:
                for function, more in ((fewest_half, ()), (most_half, ()), (nearest_half, (3,)), (with_half, (1,))):
                    with self.assertRaises(CanNot):
                        function(room, lets, *more)
        self.assertGreater(none, 100)

    def test_a_floor_with_so_many(self):
        for room, lets, floors in trials(35, 4):
            counts = {floor.count(0) for floor in floors}
            for number in list(range(-1, len(room) + 2)) + [-10 ** 40, 10 ** 40]:
                if number in counts:
                    floor = with_half(room, lets, number)
                    self.assertIn(floor, floors)
                    self.assertEqual(floor.count(0), number)
                    self.assertIs(is_with_half(room, lets, number, floor), True)
                    self.assertIs(is_with_half(room, lets, number + 2, floor), False)
                    self.assertIs(is_with_half(room, lets, number, list(floor)), False)
                else:
                    with self.assertRaises(CanNot):
                        with_half(room, lets, number)

    def test_is_with_half_over_all_floors(self):
        for room, lets, floors in trials(36, 1):
            for floor in floors_of(room)[:40]:
                for number in range(len(room) + 1):
                    wanted = floor in floors and floor.count(0) == number
                    self.assertIs(is_with_half(room, lets, number, floor), wanted)
            for thing in (None, 0, (), (0,) * (len(room) + 1), (5,) * len(room), (True,) * len(room), "0" * len(room)):
                self.assertIs(is_with_half(room, lets, 0, thing), False)

    def test_where_half_mats_can_lie(self):
        chance = seeded(32)
        for room, lets, floors in trials(37, 3):
            table = [dict(zip(room, floor)) for floor in floors]
            lots = list(itertools.chain.from_iterable(itertools.combinations(room, many) for many in range(3)))
            lots += [tuple(sorted(chance.sample(room, chance.randrange(len(room) + 1)))) for _ in range(5)] + [room]
            for lot in lots[::3]:
                wanted = any(all(laid[square] == 0 for square in lot) for laid in table)
                self.assertIs(can_be_half(room, lets, lot), wanted)
            self.assertIs(can_be_half(room, lets, ()), bool(floors))
            self.assertEqual(never_half(room, lets), tuple(
                square for square in room if not any(laid[square] == 0 for laid in table)))

    def test_lets_that_let_a_square_nothing(self):
        for room in TRIAL_ROOMS[::5]:
            lets = ((room[-1], ()),)
            self.assertEqual(halves(room, lets), ())
            self.assertEqual(never_half(room, lets), room)
            self.assertIs(can_be_half(room, lets, ()), False)


class Rules(unittest.TestCase):
    def test_never_none_and_all_even_or_all_odd(self):
        for at in range(60):
            room = low_room(seeded(at), 1 + at)
            counts = halves(room, ())
            self.assertNotEqual(counts, ())
            self.assertEqual({count % 2 for count in counts}, {len(room) % 2})
            for number in range(4):
                self.assertIn(courses(room, number).count(0), counts)
            self.assertTrue(is_floor(room, with_half(room, (), counts[len(counts) // 2])))

    def test_at_most_as_many_as_points_apart_let(self):
        for room in TRIAL_ROOMS + [boxed(6, 6), boxed(7, 9), low_room(seeded(5), 90)]:
            taken, many = set(), 0
            for point in naive.points(room):
                if not taken & set(naive.about(point)):
                    taken |= set(naive.about(point))
                    many += 1
            self.assertLessEqual(most_half(room, ()), len(room) - 2 * many)

    def test_moved_rooms_have_the_same(self):
        for room in SMALL_ROOMS[-14:] + WIDER_ROOMS + [boxed(5, 6), low_room(seeded(8), 30)]:
            for number in range(8):
                self.assertEqual(halves(moved(room, number), ()), halves(room, ()))

    def test_great_rooms(self):
        self.assertEqual(halves(boxed(7, 7), ()), (1, 3, 5, 7))
        self.assertEqual(halves(boxed(7, 14), ()), halves(boxed(14, 7), ()))
        self.assertEqual((fewest_half(boxed(7, 14), ()), most_half(boxed(7, 14), ())), (0, 14))
        for room in (boxed(1, 61), boxed(61, 1), tuple((x, 60) for x in range(61))):
            self.assertEqual(halves(room, ()), tuple(range(1, 62, 2)))
            self.assertEqual(with_half(room, (), 61), (0,) * 61)
            self.assertEqual(never_half(room, ((room[30], (0,)),)), ())
            self.assertEqual(can_be_half(room, (), room), True)

    def test_long_columns_are_gone_through_along_the_rows(self):
        tall = boxed(9, 2)
        floors = all_floors(tall)
        chance = seeded(33)
        for lets in [()] + [some_lets(chance, tall) for _ in range(6)] + [((square, (0, 2, 4)),) for square in tall]:
            kept = kept_by(floors, tall, lets)
            counts = sorted({floor.count(0) for floor in kept})
            self.assertEqual(halves(tall, lets), tuple(counts))
            for number in counts:
                self.assertIn(with_half(tall, lets, number), [own for own in kept if own.count(0) == number])
            self.assertEqual(never_half(tall, lets), tuple(
                square for at, square in enumerate(tall) if not any(floor[at] == 0 for floor in kept)))


class Refused(unittest.TestCase):
    ASKED = ((halves, ()), (fewest_half, ()), (most_half, ()), (with_half, (1,)), (is_with_half, (1, None)),
             (nearest_half, (1,)), (can_be_half, ((),)), (never_half, ()))

    def test_too_many_ahead_of_cannot_and_behind_unfit(self):
        cross = long_cross(8)
        for function, more in self.ASKED:
            for lets in ((), ((cross[0], ()),)):
                with self.assertRaises(TooMany):
                    function(cross, lets, *more)
            with self.assertRaises(Unfit):
                function(cross, (((1, 1), (0,)),), *more)
            for told in ((None,) if more else ()):
                with self.assertRaises(Unfit):
                    function(cross, (), told, *more[1:])
            # Seven in a row, or in a COLUMN, are not too many.
            for room in (cross[1:], cross[:-1]):
                try:
                    function(room, (), *more)
                except CanNot:
                    self.assertIs(function, with_half)

    def test_lots_of_squares(self):
        for lot in (((3, 3),), ((1, 0), (0, 0)), ((0, 0), (0, 0)), (0, 0), None, ((0, True),), ((-1, 0),)):
            with self.assertRaises(Unfit):
                can_be_half(THREE, (), lot)
        self.assertIs(can_be_half(THREE, (), [[0, 0]]), True)

    def test_pairs_of_lets_must_ascend(self):
        chance = seeded(34)
        for room in (THREE, boxed(2, 3)):
            for _ in range(10):
                lets = some_lets(chance, room)
                mixed = chance.sample(lets, len(lets))
                if tuple(mixed) == lets:
                    continue
                for function, more in self.ASKED:
                    for told in (tuple(mixed), mixed, listed(tuple(mixed))):
                        with self.assertRaises(Unfit):
                            function(room, told, *more)
        for lets in ((((0, 1), (0,)), ((0, 0), (0,))), (((1, 1), (0,)), ((0, 0), (1,))), [[[2, 2], [0]], [[0, 0], [0]]],
                     (((1, 1), (0,)), ((0, 0), (1,)), ((1, 1), (0,))), (((1, 1), (0,)), ((0, 3), (1,)))):
            for function, more in self.ASKED:
                # So ahead of TooMany(), too.
                for room in (THREE, tuple(sorted(set(THREE + long_cross(8))))):
                    with self.assertRaises(Unfit):
                        function(room, lets, *more)


if __name__ == "__main__":
    unittest.main()
