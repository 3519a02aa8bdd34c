"""RIMS and BORDERS [9]."""

import itertools
import unittest

from tatamirooms.errors import CanNot, TooMany
from tatamirooms.floors import all_floors, courses, mats
from tatamirooms.mirrored import floor_moved, moved
from tatamirooms.rims import (
    border, border_lets, borders, inner_mats, inside, is_border, rim_mats, why_no_border)
from tatamirooms.rooms import inner, rim
from tatamirooms.steps import falls, is_steps, left, left_by
from tests import naive
from tests.naive import SMALL_ROOMS, TINY_ROOMS, WIDER_ROOMS, boxed, grown_room, seeded

THREE = boxed(3, 3)
ROOMS = SMALL_ROOMS + WIDER_ROOMS + [
    boxed(4, 4), boxed(3, 7), boxed(5, 4), tuple(s for s in boxed(4, 4) if s != (1, 1)),
    tuple(sorted(boxed(3, 3) + tuple((x + 3, y + 3) for x, y in boxed(3, 3)))),
    tuple(sorted(boxed(3, 4) + ((1, 3), (1, 4))))]


def cross(wide, far):
    """Two strips, so wide and so long, one across the other."""
    half = (far - wide) // 2
    return tuple(sorted({(x, y + half) for x in range(far) for y in range(wide)} | {
        (x + half, y) for x in range(wide) for y in range(far)}))


GREAT_ROOMS = [
    boxed(10, 10), boxed(4, 25), boxed(25, 4), boxed(3, 33), boxed(33, 3), boxed(5, 20), boxed(2, 50), boxed(50, 2),
    cross(3, 17), cross(4, 14), cross(5, 12), tuple(s for s in boxed(10, 10) if s not in ((4, 4), (7, 2), (0, 0))),
    tuple((x + 51, y + 51) for x, y in boxed(10, 10)), boxed(1, 61), boxed(61, 1)]


def floor_by_chance(chance, room):
    """A FLOOR, told SQUARE by SQUARE, in an order told by chance, by KINDS that ROUNDS do not strike."""
    lets = left(room, ())
    for square in chance.sample(room, len(room)):
        kinds = dict(lets)[square]
        for kind in chance.sample(kinds, len(kinds)):
            more = left(room, tuple((own, (kind,) if own == square else let) for own, let in lets))
            if all(own for _, own in more):
                lets = more
                break
    return tuple(own[0] for _, own in lets)


class Borders(unittest.TestCase):
    def test_each_floor_is_read_from_its_border(self):
        for room in ROOMS:
            known = {}
            for floor in all_floors(room):
                told = border(room, floor)
                self.assertEqual(told, tuple(kind for square, kind in zip(room, floor) if square in naive.rim(room)))
                self.assertNotIn(told, known)
                known[told] = floor
                self.assertEqual(inside(room, told), floor)
                self.assertIs(is_border(room, told), True)
                with self.assertRaises(CanNot):
                    why_no_border(room, told)
            self.assertEqual(borders(room), sorted(known))

    def read_or_refused(self, room, known, told):
        """Told is read as the FLOOR that known has for it, or refused if it has none."""
        if told in known:
            self.assertEqual(inside(room, told), known[told])
        else:
            with self.assertRaises(CanNot):
                inside(room, told)

    def test_all_tuples_of_kinds_of_the_rim(self):
        for room in [room for room in TINY_ROOMS if len(room) <= 3]:
            known = {border(room, floor): floor for floor in naive.floors(room)}
            for told in itertools.product(range(5), repeat=len(room)):
                self.read_or_refused(room, known, told)

    def test_tuples_of_kinds_round_an_inner_square(self):
        known = {border(THREE, floor): floor for floor in naive.floors(THREE)}
        let = [[k for k in range(5) if k == 0 or naive.partner(s, k) in THREE] for s in rim(THREE)]
        for told in itertools.islice(itertools.product(*let), 0, None, 23):
            self.read_or_refused(THREE, known, told)

    def test_borders_with_few_kinds_changed(self):
        room = boxed(4, 4)
        known = {border(room, floor): floor for floor in naive.floors(room)}
        for told in sorted(known)[::8]:
            for at, kind in itertools.product(range(12), range(5)):
                self.read_or_refused(room, known, told[:at] + (kind,) + told[at + 1:])

    def test_why_a_border_is_none(self):
        chance = seeded(12)
        for room in ROOMS[::2]:
            for floor in all_floors(room)[::5]:
                told = list(border(room, floor))
                told[chance.randrange(len(told))] = chance.randrange(5)
                lets = border_lets(room, told)
                self.assertEqual(lets, tuple((square, (kind,)) for square, kind in zip(rim(room), told)))
                if falls(room, lets):
                    why = why_no_border(room, told)
                    self.assertTrue(is_steps(room, lets, why))
                    self.assertIn((), [kinds for _, kinds in left_by(room, lets, why)])
                    self.assertFalse(is_border(room, tuple(told)))
                else:
                    with self.assertRaises(CanNot):
                        why_no_border(room, told)

    def test_squares_by_sides_would_not_do(self):
        # At the corners inside of a bent ROOM: inner by its sides, but not by its corners.
        bent = tuple(s for s in boxed(3, 3) if s != (2, 2))
        self.assertIn((1, 1), rim(bent))
        self.assertEqual(inner(bent), ())
        self.assertEqual(len(border(bent, courses(bent, 0))), 8)

    def test_one_square_and_pieces(self):
        lone = ((5, 5),)
        self.assertEqual([border(lone, (0,)), inside(lone, (0,)), borders(lone)], [(0,), (0,), [(0,)]])
        self.assertEqual(why_no_border(lone, (1,)), ((lone[0], 1, lone),))
        apart = tuple(sorted(THREE + ((9, 9),)))
        for floor in all_floors(apart):
            self.assertEqual(inside(apart, border(apart, floor)), floor)
        self.assertEqual(len(borders(apart)), 22)

    def test_too_many(self):
        for room in (boxed(8, 8), boxed(7, 14), boxed(1, 40), boxed(40, 1)):
            with self.assertRaises(TooMany):
                borders(room)

    def test_borders_stand_ascending_though_floors_stand_otherwise(self):
        for room in (boxed(4, 4), boxed(3, 7), boxed(7, 3), boxed(8, 3)):
            found = borders(room)
            self.assertEqual(found, sorted(set(found)))
            self.assertEqual(len(found), len(all_floors(room)))


class Mats(unittest.TestCase):
    def test_mats_of_the_rim_and_the_others(self):
        for room in ROOMS:
            edge = naive.rim(room)
            for floor in all_floors(room)[:60]:
                lot = mats(room, floor)
                self.assertEqual(rim_mats(room, floor), tuple(mat for mat in lot if set(mat) & set(edge)))
                self.assertEqual(inner_mats(room, floor), tuple(mat for mat in lot if not set(mat) & set(edge)))


class GreatRooms(unittest.TestCase):
    def test_courses_of_great_rooms(self):
        for room in GREAT_ROOMS + [grown_room(seeded(at), 100) for at in range(12)]:
            for number in range(4):
                floor = courses(room, number)
                self.assertEqual(inside(room, border(room, floor)), floor)

    def test_floors_of_long_rooms_put_together(self):
        # Floors of a strip, again and again, with a gap between: one great ROOM of many pieces.
        floors = all_floors(boxed(4, 4))
        room = tuple((x + 5 * at, y) for at in range(6) for x, y in boxed(4, 4))
        for at in range(0, 60, 6):
            floor = tuple(kind for own in floors[at:at + 6] for kind in own)
            self.assertEqual(inside(room, border(room, floor)), floor)

    def test_great_squares_with_other_floors(self):
        # From each FLOOR of 7 by 7, moved by all MOVES, read back.
        room = boxed(7, 7)
        for floor in all_floors(room)[::40]:
            for number in range(8):
                there, other = moved(room, number), floor_moved(room, floor, number)
                self.assertEqual(inside(there, border(there, other)), other)

    def test_floors_told_by_chance(self):
        chance = seeded(14)
        for room in GREAT_ROOMS[:12] + [grown_room(chance, 100) for _ in range(6)]:
            floor = floor_by_chance(chance, room)
            self.assertTrue(naive.is_floor(room, floor))
            self.assertEqual(inside(room, border(room, floor)), floor)
            self.assertIs(is_border(room, border(room, floor)), True)

    def test_borders_that_no_floor_has(self):
        chance = seeded(13)
        for room in GREAT_ROOMS:
            self.assertIs(is_border(room, (4,) * len(rim(room))), False)
            told = list(border(room, courses(room, chance.randrange(4))))
            at = chance.randrange(len(told))
            told[at] = (told[at] + 1 + chance.randrange(4)) % 5
            given = is_border(room, tuple(told))
            if given:
                floor = inside(room, told)
                self.assertTrue(naive.is_floor(room, floor))
                self.assertEqual(border(room, floor), tuple(told))
            else:
                with self.assertRaises(CanNot):
                    inside(room, told)

    def test_half_mats_alone_are_a_border_only_where_no_four_meet(self):
        self.assertFalse(is_border(boxed(10, 10), (0,) * 36))
        thin = tuple(sorted({(x, 0) for x in range(50)} | {(0, y) for y in range(50)}))
        self.assertEqual(inside(thin, (0,) * 99), (0,) * 99)


if __name__ == "__main__":
    unittest.main()
