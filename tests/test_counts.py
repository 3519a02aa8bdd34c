"""How many FLOORS [16]."""

import unittest

from tatamirooms.columns import column, is_shut, rows_at
from tatamirooms.counts import by_half, how_many, how_many_with, kinds_many, with_row
from tatamirooms.errors import NoSquare, TooMany, Unfit
from tatamirooms.floors import all_floors
from tatamirooms.mirrored import moved, square_moved
from tests import naive
from tests.naive import (
    TRIAL_ROOMS, boxed, floors_of, kept_by, long_cross, low_room, seeded, some_lets, trials)

TALL, FLAT = boxed(9, 2), boxed(2, 9)
SNAKE = tuple(sorted({(x, 0) for x in range(3)} | {(2, y) for y in range(9)} | {(x, 8) for x in range(2, 5)}))


class Counts(unittest.TestCase):
    def test_as_a_trial_of_all_floors(self):
        for room, lets, floors in trials(51, 5):
            self.assertEqual(how_many_with(room, lets), len(floors))
            counts = [floor.count(0) for floor in floors]
            self.assertEqual(by_half(room, lets), tuple((own, counts.count(own)) for own in sorted(set(counts))))
            self.assertEqual(how_many_with(room, lets) == 0, is_shut(room, lets))
        for room in TRIAL_ROOMS:
            self.assertEqual(how_many(room), len(floors_of(room)))

    def test_kinds_at_each_square(self):
        for room, lets, floors in trials(52, 2):
            for at, square in enumerate(room):
                wanted = tuple(sum(floor[at] == kind for floor in floors) for kind in range(5))
                self.assertEqual(kinds_many(room, lets, square), wanted)

    def test_with_each_row(self):
        for room, lets, floors in trials(53, 2)[::2]:
            for x in range(room[0][0] - 1, min(room[-1][0], room[0][0] + 5) + 2):
                places = [at for at, square in enumerate(room) if square[0] == x]
                rows = set(rows_at(room, (), x)) | {(0,) * len(places), (1,) * len(places), (4,) * len(places)}
                for row in sorted(rows)[::3]:
                    wanted = sum(tuple(floor[at] for at in places) == row for floor in floors)
                    self.assertEqual(with_row(room, lets, x, row), wanted)

    def test_as_many_as_ways_to_lay_mats(self):
        for at in range(12):
            room = low_room(seeded(at), 12 + at)
            self.assertEqual(how_many(room), naive.count_by_mats(room))
        for room in (boxed(4, 5), boxed(3, 7), boxed(9, 2), SNAKE, tuple(s for s in boxed(5, 5) if s != (2, 2))):
            self.assertEqual(how_many(room), naive.count_by_mats(room))


class Sums(unittest.TestCase):
    def test_they_add_up_to_one_another(self):
        chance = seeded(54)
        for at in range(12):
            room = low_room(chance, 20 + 7 * at)
            for lets in ((), some_lets(chance, room)[:6]):
                many = how_many_with(room, lets)
                self.assertEqual(sum(count for _, count in by_half(room, lets)), many)
                self.assertTrue(all(half % 2 == len(room) % 2 and count for half, count in by_half(room, lets)))
                for square in room[::9]:
                    self.assertEqual(sum(kinds_many(room, lets, square)), many)
                for x in {room[0][0], room[-1][0], room[0][0] - 1}:
                    rows = rows_at(room, (), x)
                    if len(rows) < 120:
                        self.assertEqual(sum(with_row(room, lets, x, row) for row in rows), many)
                self.assertEqual(many == 0, is_shut(room, lets))

    def test_moved_rooms_have_as_many(self):
        for room in TRIAL_ROOMS[-14:] + [boxed(4, 7), TALL, SNAKE, low_room(seeded(55), 40)]:
            for number in range(8):
                there = moved(room, number)
                self.assertEqual(how_many(there), how_many(room))
                self.assertEqual(by_half(there, ()), by_half(room, ()))
                square = room[len(room) // 2]
                turned = kinds_many(there, (), square_moved(room, square, number))
                self.assertEqual(sorted(turned), sorted(kinds_many(room, (), square)))
                self.assertEqual(turned[0], kinds_many(room, (), square)[0])


class LongLines(unittest.TestCase):
    def test_long_columns_are_gone_through_along_the_rows(self):
        chance = seeded(56)
        for room in (TALL, FLAT, SNAKE):
            floors = all_floors(room)
            for lets in [(), ((room[0], ()),)] + [some_lets(chance, room) for _ in range(6)]:
                kept = kept_by(floors, room, lets)
                self.assertEqual(how_many_with(room, lets), len(kept))
                counts = [floor.count(0) for floor in kept]
                self.assertEqual(by_half(room, lets), tuple((own, counts.count(own)) for own in sorted(set(counts))))
                for at, square in enumerate(room):
                    wanted = tuple(sum(floor[at] == kind for floor in kept) for kind in range(5))
                    self.assertEqual(kinds_many(room, lets, square), wanted)
                for x in range(-1, 5):
                    places = [at for at, square in enumerate(room) if square[0] == x]
                    for floor in floors[::len(floors) // 4]:
                        row = tuple(floor[at] for at in places)
                        wanted = sum(tuple(own[at] for at in places) == row for own in kept)
                        self.assertEqual(with_row(room, lets, x, row), wanted)

    def test_lines_of_seven_and_of_eight(self):
        cross = long_cross(8)
        for function, more in ((how_many, ()), (how_many_with, ((),)), (by_half, ((),)), (kinds_many, ((), (0, 0))),
                               (with_row, ((), 2, (0,)))):
            for room in (cross, boxed(8, 8), boxed(10, 10)):
                told = more if function is not with_row else ((), 2, (0,) * len(column(room, 2)))
                with self.assertRaises(TooMany):
                    function(room, *told)
            for room in (long_cross(7), boxed(7, 14), boxed(14, 7)):
                told = more if function is not with_row else ((), 2, (0,) * len(column(room, 2)))
                function(room, *told)
        self.assertEqual(how_many(boxed(7, 14)), how_many(boxed(14, 7)))

    def test_great_rooms(self):
        fibonacci = [1, 1]
        while len(fibonacci) <= 61:
            fibonacci.append(fibonacci[-1] + fibonacci[-2])
        self.assertEqual(how_many(tuple((x, 60) for x in range(61))), fibonacci[61])
        self.assertEqual(how_many(tuple((60, y) for y in range(61))), fibonacci[61])
        thin = tuple(sorted({(x, 0) for x in range(50)} | {(x, 2) for x in range(50)}))
        self.assertEqual(how_many(thin), fibonacci[50] ** 2)
        apart = tuple(sorted((x, y) for x in range(0, 60, 6) for y in range(0, 60, 9)))
        self.assertEqual([how_many(apart), by_half(apart, ())], [1, ((70, 1),)])
        lets = tuple((square, (0, 1, 2, 3, 4)) for square in boxed(7, 14))
        self.assertEqual(how_many_with(boxed(7, 14), lets), how_many(boxed(7, 14)))


class Edges(unittest.TestCase):
    def test_one_square(self):
        lone = ((5, 8),)
        self.assertEqual([how_many(lone), by_half(lone, ()), kinds_many(lone, (), (5, 8))], [1, ((1, 1),), (1, 0, 0, 0, 0)])
        self.assertEqual([with_row(lone, (), 5, (0,)), with_row(lone, (), 5, (1,)), with_row(lone, (), 4, ())], [1, 0, 1])
        self.assertEqual([how_many_with(lone, ((lone[0], ()),)), by_half(lone, ((lone[0], (1,)),))], [0, ()])

    def test_rows_at_an_x_without_squares(self):
        room = ((2, 0), (4, 0), (4, 1))
        for x in (-(10 ** 6), -1, 0, 3, 5, 10 ** 6):
            self.assertEqual(with_row(room, (), x, ()), 2)
            self.assertEqual(with_row(room, (((4, 0), (2,)),), x, []), 1)
            self.assertEqual(with_row(room, (((4, 0), ()),), x, ()), 0)
            with self.assertRaises(Unfit):
                with_row(room, (), x, (0,))
        self.assertEqual([with_row(room, (), 4, own) for own in ((0, 0), (2, 4), (0, 4), (1, 1))], [1, 1, 0, 0])

    def test_the_order_of_refusals(self):
        cross = long_cross(8)
        with self.assertRaises(NoSquare) as raised:
            kinds_many(cross, (), [1, 1])
        self.assertEqual(raised.exception.square, (1, 1))
        for told in ((cross, (((1, 1), ()),), (1, 1)), (cross, (), (1, True)), (cross[::-1], (), (1, 1)), (cross, (), 7)):
            with self.assertRaises(Unfit):
                kinds_many(*told)
        for told in ((cross, (), True, (0,)), (cross, (), 2, (0, 0)), (cross, (), 2, None), (cross, 5, 2, (0,)),
                     (cross, (), 2, (5,)), (cross, (), 1, (0,))):
            with self.assertRaises(Unfit):
                with_row(*told)
        for function in (how_many_with, by_half):
            with self.assertRaises(Unfit):
                function(cross, (((0, 0), (True,)),))


if __name__ == "__main__":
    unittest.main()
