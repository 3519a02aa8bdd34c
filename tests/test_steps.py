"""STEPS and ROUNDS [10]."""

import itertools
import unittest

from tatamirooms.errors import CanNot, NoSquare, Unfit
from tatamirooms.steps import (
    all_sure, falls, is_steps, left, left_by, next_sure, spots_against, steps)
from tests import naive
from tests.naive import SMALL_ROOMS, TINY_ROOMS, WIDER_ROOMS, boxed, grown_room, seeded, some_lets

ROOMS = TINY_ROOMS[::5] + SMALL_ROOMS[-14:] + WIDER_ROOMS[2:]


def cases(many):
    """Pairs of a ROOM and LETS of it, told by chance, the same ones each time."""
    chance = seeded(10)
    found = []
    for room in ROOMS:
        found += [(room, ())] + [(room, some_lets(chance, room)) for _ in range(many)]
    return found


def kept_by(room, lets):
    """The FLOORS that keep lets."""
    table = dict(lets)
    return [floor for floor in naive.floors(room)
            if all(kind in table.get(square, range(5)) for square, kind in zip(room, floor))]


def table_of(room, lets):
    """A dict of the KINDS let at each SQUARE."""
    found = {square: list(range(5)) for square in room}
    found.update({square: list(kinds) for square, kinds in lets})
    return found


class Steps(unittest.TestCase):
    def test_spots_against(self):
        for room, lets in cases(2):
            table = table_of(room, lets)
            for square, kind in itertools.product(room, range(5)):
                wanted = tuple(spot for spot in naive.spots(room) if square in spot and not naive.spot_can_stand(
                    room, table, spot, square, kind))
                self.assertEqual(spots_against(room, lets, square, kind), wanted)

    def test_all_that_is_one_step_and_all_that_is_none(self):
        for room, lets in cases(1)[::3]:
            there = naive.steps_there(room, table_of(room, lets))
            for spot in naive.spots(room)[:12]:
                for square, kind in itertools.product(room[:5], range(5)):
                    step = (square, kind, spot)
                    self.assertIs(is_steps(room, lets, (step,)), step in there)

    def test_steps_are_rounds(self):
        for room, lets in cases(4):
            found = steps(room, lets)
            self.assertIsInstance(found, tuple)
            self.assertTrue(is_steps(room, lets, found))
            self.assertEqual(left_by(room, lets, found), left(room, lets))
            table = {square: list(kinds) for square, kinds in left(room, lets)}
            self.assertEqual(naive.steps_there(room, table), [])
            self.assertEqual(sum(len(kinds) for kinds in table_of(room, lets).values()) - len(found),
                             sum(len(kinds) for kinds in table.values()))

    def test_rounds_leave_one_and_the_same_in_whatever_order(self):
        chance = seeded(11)
        for room, lets in [case for case in cases(2) if len(case[0]) <= 7]:
            for _ in range(3):
                wanted, done = naive.rounds(room, lets, chance)
                self.assertEqual(left(room, lets), wanted)
                self.assertTrue(is_steps(room, lets, done))
                self.assertEqual(left_by(room, lets, done), wanted)

    def test_beginnings_of_steps_are_steps(self):
        for room, lets in cases(1)[::2]:
            found = steps(room, lets)
            for at in range(0, len(found) + 1, 3):
                self.assertTrue(is_steps(room, lets, found[:at]))
                wanted = table_of(room, lets)
                for square, kind, _ in found[:at]:
                    wanted[square].remove(kind)
                self.assertEqual(left_by(room, lets, found[:at]),
                                 tuple((square, tuple(wanted[square])) for square in room))

    def test_a_step_done_twice_or_with_a_list_is_none(self):
        for room, lets in cases(1)[::2]:
            found = steps(room, lets)
            if found:
                self.assertFalse(is_steps(room, lets, found + found[:1]))
                self.assertFalse(is_steps(room, lets, list(found)))
                self.assertFalse(is_steps(room, lets, (list(found[0]),) + found[1:]))
                self.assertFalse(is_steps(room, lets, ((found[0][0], found[0][1], list(found[0][2])),)))
                with self.assertRaises(Unfit):
                    left_by(room, lets, found + found[:1])
                self.assertEqual(left_by(room, lets, [list(step) for step in found]), left(room, lets))

    def test_each_step_stands_behind_those_ahead(self):
        row = ((0, 0), (1, 0), (2, 0))
        lets = (((0, 0), (0,)), ((1, 0), (0, 1, 3)), ((2, 0), (0,)))
        first = ((1, 0), 3, ((0, 0), (1, 0)))
        self.assertTrue(is_steps(row, lets, (first, ((1, 0), 1, ((1, 0), (2, 0))))))
        self.assertFalse(is_steps(row, lets, (first, first)))
        chain = (((0, 0), (1,)), ((1, 0), (0, 3)), ((2, 0), (3,)))
        self.assertTrue(is_steps(row, chain, (((1, 0), 0, ((0, 0), (1, 0))), ((2, 0), 3, ((1, 0), (2, 0))))))
        self.assertTrue(is_steps(row, chain, (((2, 0), 3, ((1, 0), (2, 0))),)))
        later = (((0, 0), (1,)), ((1, 0), (1, 3)), ((2, 0), (0, 3)))
        self.assertFalse(is_steps(row, later, (((2, 0), 3, ((1, 0), (2, 0))),)))
        self.assertTrue(is_steps(row, later, (((1, 0), 1, ((0, 0), (1, 0))), ((2, 0), 3, ((1, 0), (2, 0))))))

    def test_kinds_out_of_the_room_are_left_until_they_are_struck(self):
        two = ((0, 0), (1, 0))
        self.assertEqual(spots_against(two, (), (0, 0), 3), (((0, 0),),))
        self.assertEqual(left_by(two, (), ()), tuple((square, (0, 1, 2, 3, 4)) for square in two))
        lets = (((1, 0), (0, 1)),)
        self.assertEqual(left_by(two, lets, ()), (((0, 0), (0, 1, 2, 3, 4)), ((1, 0), (0, 1))))
        # East of (1, 0) is none of the ROOM, but its KIND 1 stays till it is struck, and fits beside 0.
        only = (((1, 0), (1,)),)
        self.assertEqual(spots_against(two, only, (0, 0), 0), ())
        self.assertEqual(left(two, only), (((0, 0), ()), ((1, 0), ())))


class Rounds(unittest.TestCase):
    def test_floors_that_keep_lets_keep_what_is_left(self):
        for room, lets in cases(4):
            found = dict(left(room, lets))
            self.assertEqual(tuple(found), room)
            floors = kept_by(room, lets)
            for floor in floors:
                self.assertTrue(all(kind in found[square] for square, kind in zip(room, floor)))
            fallen = any(kinds == () for kinds in found.values())
            self.assertIs(falls(room, lets), fallen)
            if fallen:
                self.assertEqual(floors, [])
            if all(len(kinds) == 1 for kinds in found.values()):
                self.assertEqual(floors, [tuple(found[square][0] for square in room)])

    def test_what_is_sure(self):
        for room, lets in cases(4):
            found, told = dict(left(room, lets)), table_of(room, lets)
            self.assertEqual(all_sure(room, lets), tuple(
                (square, kinds) for square, kinds in sorted(found.items()) if len(kinds) == 1))
            wanted = [square for square in room if len(told[square]) > 1 and len(found[square]) == 1]
            if wanted and all(found.values()):
                self.assertEqual(next_sure(room, lets), (wanted[0], found[wanted[0]][0]))
            else:
                with self.assertRaises(CanNot):
                    next_sure(room, lets)

    def test_no_floor_is_struck(self):
        for room in [room for room in ROOMS if len(room) <= 9]:
            for floor in naive.floors(room)[::4]:
                lets = tuple((square, (kind,)) for square, kind in zip(room, floor))
                self.assertEqual(steps(room, lets), ())
                self.assertEqual(left(room, lets), lets)
                self.assertEqual(all_sure(room, lets), lets)
                with self.assertRaises(CanNot):
                    next_sure(room, lets)

    def test_where_a_square_has_no_kind_its_whole_piece_falls(self):
        room = tuple(sorted(boxed(2, 3) + ((9, 9),)))
        self.assertEqual(left(room, (((0, 0), ()),)), tuple((square, ()) for square in boxed(2, 3)) + (((9, 9), (0,)),))
        self.assertTrue(falls(room, (((9, 9), ()),)))
        self.assertEqual(left(room, (((9, 9), (1, 2)),))[-1], ((9, 9), ()))
        self.assertEqual(all_sure(room, (((0, 0), ()),)), (((9, 9), (0,)),))
        with self.assertRaises(CanNot):
            next_sure(room, (((0, 0), ()),))
        # Pieces that touch by a corner alone have no spot in common.
        self.assertEqual(left(((0, 0), (1, 1)), (((0, 0), ()),)), (((0, 0), ()), ((1, 1), (0,))))

    def test_one_square(self):
        lone = ((3, 3),)
        self.assertEqual(left(lone, ()), ((lone[0], (0,)),))
        self.assertEqual(steps(lone, ()), tuple((lone[0], kind, lone) for kind in (1, 2, 3, 4)))
        self.assertEqual(next_sure(lone, ()), (lone[0], 0))
        self.assertEqual(spots_against(lone, (), lone[0], 0), ())
        self.assertTrue(falls(lone, ((lone[0], (1, 2)),)))

    def test_great_rooms(self):
        great = boxed(10, 10)
        table = dict(left(great, ()))
        self.assertEqual([table[0, 0], table[5, 5], table[9, 9]], [(0, 1, 2), (0, 1, 2, 3, 4), (0, 3, 4)])
        found = steps(great, (((0, 0), (0,)), ((1, 1), (0,))))
        self.assertTrue(is_steps(great, (((0, 0), (0,)), ((1, 1), (0,))), found))
        self.assertTrue(falls(great, (((4, 4), (0,)), ((4, 5), (0,)), ((5, 4), (0,)), ((5, 5), (0,)))))
        for at in range(6):
            room = grown_room(seeded(at), 100)
            self.assertTrue(is_steps(room, (), steps(room, ())))
            self.assertFalse(falls(room, ()))

    def test_no_square(self):
        with self.assertRaises(NoSquare) as raised:
            spots_against(((0, 0),), [], [-1, 0], 4)
        self.assertEqual(raised.exception.square, (-1, 0))
        with self.assertRaises(Unfit):
            spots_against(((0, 0),), [], [-1, 0], 5)


if __name__ == "__main__":
    unittest.main()
