"""FLOORS [7]."""

import itertools
import unittest

from tatamirooms.errors import CanNot, NoSquare, TooMany, Unfit
from tatamirooms.floors import (
    all_floors, all_mats, by_mats, courses, first_flaw, flaws, how_many_half, is_floor, kind_of, mat_of, mats,
    some_floor)
from tests import naive
from tests.naive import SMALL_ROOMS, TINY_ROOMS, WIDER_ROOMS, boxed, grown_room, seeded

ROOMS = SMALL_ROOMS + WIDER_ROOMS
FLOORS = {room: naive.floors(room) for room in ROOMS}
TWO = boxed(2, 2)


def beside_one_another(parts):
    """A ROOM of all parts, each two columns away from the one ahead."""
    found, east = [], 0
    for part in parts:
        found += [(x + east, y) for x, y in part]
        east = max(x for x, _ in found) + 2
    return tuple(sorted(found))


def laid_in_courses(room, number):
    """The FLOOR in courses, by the words of the document."""
    table = {square: 0 for square in room}
    for x, y in room:
        kind, back, other = (1, 3, (x + 1, y)) if number < 2 else (2, 4, (x, y + 1))
        if (x + y + number) % 2 == 0 and other in table:
            table[x, y], table[other] = kind, back
    return tuple(table[square] for square in room)


class AllFloors(unittest.TestCase):
    def test_all_floors_are_those_of_a_trial(self):
        for room in ROOMS:
            self.assertEqual(all_floors(room), FLOORS[room])

    def test_is_floor_over_all_tuples_of_kinds(self):
        for room in [room for room in TINY_ROOMS if len(room) <= 4]:
            for laid in itertools.product(range(5), repeat=len(room)):
                self.assertIs(is_floor(room, laid), laid in FLOORS[room])

    def test_as_many_as_ways_to_lay_mats(self):
        for room in (boxed(4, 4), boxed(3, 6), boxed(6, 3), boxed(5, 5), boxed(9, 2), boxed(2, 9), boxed(8, 3),
                     tuple(s for s in boxed(4, 4) if s != (1, 1))):
            self.assertEqual(len(all_floors(room)), naive.count_by_mats(room))
        hole = tuple(s for s in boxed(5, 5) if s != (2, 2))
        self.assertGreater(naive.count_by_mats(hole), 2000)
        with self.assertRaises(TooMany):
            all_floors(hole)

    def test_squares_of_n_by_n(self):
        self.assertEqual([len(all_floors(boxed(n, n))) for n in range(1, 8)], [1, 6, 22, 66, 178, 450, 1090])

    def test_lines(self):
        fibonacci = [1, 2, 3, 5, 8, 13, 21, 34, 55, 89, 144, 233, 377, 610, 987, 1597]
        self.assertEqual([len(all_floors(boxed(1, n))) for n in range(1, 17)], fibonacci)
        self.assertEqual([len(all_floors(boxed(n, 1))) for n in range(1, 17)], fibonacci)
        for line in (boxed(1, 17), boxed(17, 1), boxed(1, 100), boxed(100, 1), boxed(7, 14), boxed(14, 7)):
            with self.assertRaises(TooMany):
                all_floors(line)

    def test_long_columns_and_long_rows(self):
        high, wide = boxed(12, 2), boxed(2, 12)
        self.assertGreater(len(all_floors(boxed(2, 9))), 7)
        with self.assertRaises(TooMany):
            all_floors(high)
        with self.assertRaises(TooMany):
            all_floors(wide)
        tall = boxed(8, 3)
        self.assertEqual(len(all_floors(tall)), 852)
        self.assertEqual(all_floors(tall), sorted(all_floors(tall)))
        self.assertEqual(len(all_floors(boxed(3, 8))), 852)
        self.assertTrue(all(is_floor(tall, floor) for floor in all_floors(tall)))
        gaps = tuple((0, y) for y in range(0, 60, 3))
        self.assertEqual(all_floors(gaps), [(0,) * 20])

    def test_too_great_in_both_ways(self):
        cross = tuple(sorted({(0, y) for y in range(0, 16, 2)} | {(x, 0) for x in range(0, 16, 2)}))
        with self.assertRaises(TooMany):
            all_floors(cross)
        self.assertEqual(all_floors(cross[1:]), [(0,) * 14])
        self.assertEqual(all_floors(cross[:-1]), [(0,) * 14])
        for room in (boxed(8, 8), boxed(10, 10)):
            with self.assertRaises(TooMany):
                all_floors(room)

    def test_two_thousand_floors_and_more(self):
        just = beside_one_another([boxed(2, 1)] * 4 + [boxed(4, 1)] * 3)
        floors = all_floors(just)
        self.assertEqual(len(floors), 2000)
        self.assertEqual(len(set(floors)), 2000)
        self.assertEqual(floors, sorted(floors))
        forked = ((0, 0), (0, 1), (0, 2), (1, 1), (2, 1))
        self.assertEqual([len(all_floors(own)) for own in (forked, boxed(3, 3), boxed(6, 1))], [7, 22, 13])
        # 2,002 is 7 times 22 times 13.
        with self.assertRaises(TooMany):
            all_floors(beside_one_another([forked, boxed(3, 3), boxed(6, 1)]))
        self.assertEqual(len(all_floors(beside_one_another([forked, boxed(3, 3), boxed(5, 1)]))), 7 * 22 * 8)
        with self.assertRaises(TooMany):
            all_floors(beside_one_another([boxed(2, 1)] * 25))

    def test_pieces_by_themselves(self):
        room = beside_one_another([boxed(2, 2), ((0, 5), (0, 6)), boxed(3, 1)])
        floors = all_floors(room)
        self.assertEqual(len(floors), 6 * 2 * 3)
        self.assertEqual(floors, naive.floors(room))
        lone = tuple((x, y) for x in range(0, 60, 6) for y in range(0, 14, 2))
        self.assertEqual(all_floors(lone), [(0,) * 70])

    def test_grown_rooms(self):
        for at in range(40):
            room = grown_room(seeded(at), 4 + at % 6)
            self.assertEqual(all_floors(room), naive.floors(room))

    def test_rings_round_a_pillar(self):
        lucas = {8: 47, 10: 123, 12: 322}
        for wide in (3, 4, 5):
            ring = tuple((x, y) for x in range(wide) for y in range(3) if y != 1 or x in (0, wide - 1))
            self.assertEqual(len(all_floors(ring)), lucas[len(ring)])


class Mats(unittest.TestCase):
    def test_floors_and_mats_tell_one_another(self):
        for room in ROOMS:
            known = {}
            for floor in FLOORS[room]:
                lot = mats(room, floor)
                self.assertEqual(lot, tuple(sorted(set(lot))))
                self.assertEqual(sorted(square for mat in lot for square in mat), list(room))
                self.assertTrue(set(lot) <= set(all_mats(room)))
                self.assertEqual(by_mats(room, lot), floor)
                self.assertNotIn(lot, known)
                known[lot] = True
                self.assertEqual(how_many_half(room, floor), sum(len(mat) == 1 for mat in lot))
                self.assertEqual(how_many_half(room, floor) % 2, len(room) % 2)

    def test_sets_of_mats_that_are_no_floor(self):
        for room in [room for room in TINY_ROOMS if len(room) <= 4]:
            known = {mats(room, floor): floor for floor in FLOORS[room]}
            every = all_mats(room)
            for many in range(len(every) + 1):
                for lot in itertools.combinations(every, many):
                    if lot in known:
                        self.assertEqual(by_mats(room, lot), known[lot])
                    else:
                        with self.assertRaises(CanNot):
                            by_mats(room, lot)

    def test_all_mats(self):
        for room in ROOMS:
            self.assertEqual(all_mats(room), tuple(sorted([(square,) for square in room] + naive.pairs(room))))

    def test_mats_at_squares(self):
        for room in ROOMS:
            for floor in FLOORS[room][:30]:
                lot = mats(room, floor)
                for at, square in enumerate(room):
                    self.assertEqual(kind_of(room, floor, square), floor[at])
                    self.assertEqual([mat_of(room, floor, square)], [mat for mat in lot if square in mat])

    def test_no_square(self):
        for function in (kind_of, mat_of):
            with self.assertRaises(NoSquare) as raised:
                function(TWO, (1, 1, 3, 3), [2, -1])
            self.assertEqual(raised.exception.square, (2, -1))
            with self.assertRaises(Unfit):
                function(TWO, (1, 1, 3, 0), (9, 9))


class Flaws(unittest.TestCase):
    def test_flaws_by_chance(self):
        chance = seeded(9)
        for room in ROOMS:
            for _ in range(20):
                laid = tuple(chance.randrange(5) for _ in room)
                table = dict(zip(room, laid))
                bad = [(square,) for square in room if table[square] and naive.partner(
                    square, table[square]) not in room]
                bad += [(a, b) for a, b in naive.pairs(room) if not naive.two_fit(a, table[a], b, table[b])]
                bad += [tuple(naive.about(p)) for p in naive.points(room) if not naive.point_fits(p, table)]
                self.assertEqual(flaws(room, laid), tuple(sorted(bad)))
                if bad:
                    self.assertEqual(first_flaw(room, laid), min(bad))
                    self.assertFalse(is_floor(room, laid))
                else:
                    self.assertTrue(is_floor(room, laid))

    def test_floors_have_none_and_one_kind_changed_makes_one(self):
        for room in ROOMS:
            for floor in FLOORS[room][::3]:
                self.assertEqual(flaws(room, floor), ())
                with self.assertRaises(CanNot):
                    first_flaw(room, floor)
                for at, kind in itertools.product(range(len(room)), range(5)):
                    if kind != floor[at]:
                        self.assertNotEqual(flaws(room, floor[:at] + (kind,) + floor[at + 1:]), ())


class Courses(unittest.TestCase):
    def test_courses_are_floors(self):
        chance = seeded(3)
        for room in ROOMS + [grown_room(chance, 1 + at) for at in range(100)] + [boxed(10, 10)]:
            for number in range(4):
                floor = courses(room, number)
                self.assertEqual(floor, laid_in_courses(room, number))
                self.assertTrue(naive.is_floor(room, floor))
                self.assertTrue(is_floor(room, floor))
            self.assertTrue(is_floor(room, some_floor(room)))
            self.assertEqual(some_floor(room), some_floor([list(square) for square in room]))


if __name__ == "__main__":
    unittest.main()
