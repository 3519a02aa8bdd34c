"""CLUES [21]."""

import itertools
import unittest
from unittest import mock

from tatamirooms.clues import (
    all_told, are_clues, are_two_floors, clued_floor, fewest_clues, hint, is_fewest_clues, is_why_needed, least_many,
    needless, rim_told, thinned, two_floors, why_needed)
from tatamirooms.counts import how_many
from tatamirooms.drawn import drawn
from tatamirooms.errors import CanNot, NoSquare, TooMany, Unfit
from tatamirooms.floors import all_floors, courses
from tests import naive
from tests.naive import (
    TRIAL_ROOMS, boxed, floors_of, kept_by, listed, low_room, seeded, trials)

TWO = boxed(2, 2)
THREE = boxed(3, 3)
HALL = ((0, 0), (0, 1), (1, 0), (1, 1), (2, 1))
HIGH = boxed(8, 1)
NOTHING = (((0, 0), ()),)
ROW = tuple((x, 0) for x in range(17))


def single(chance, room, floor, share):
    """LETS of one KIND each, those of floor at some SQUARES, told by chance."""
    return tuple((square, (kind,)) for square, kind in zip(room, floor) if chance.random() < share)


def told_trials(number, many):
    """Triples of a ROOM, LETS of one KIND each, and the FLOORS that keep them."""
    chance = seeded(number)
    found = []
    for room in TRIAL_ROOMS:
        for _ in range(many):
            lets = single(chance, room, chance.choice(floors_of(room)), chance.random())
            found.append((room, lets, kept_by(floors_of(room), room, lets)))
    return found


def without(lets, square):
    return tuple(pair for pair in lets if pair[0] != square)


def fewest_of(room, floors, floor):
    """Of how many SQUARES CLUES are at least that floor keeps, by a trial of all lots of SQUARES."""
    for many in range(len(room) + 1):
        for places in itertools.combinations(range(len(room)), many):
            if not any(own != floor and all(own[at] == floor[at] for at in places) for own in floors):
                return many


class Clues(unittest.TestCase):
    def test_are_clues_as_a_trial_of_all_floors(self):
        for room, lets, floors in told_trials(111, 8):
            self.assertIs(are_clues(room, lets), len(floors) == 1)
            self.assertIs(are_clues(room, listed(lets)), False)
        for room, lets, floors in trials(112, 4):
            wanted = len(floors) == 1 and all(len(kinds) == 1 for _, kinds in lets)
            self.assertIs(are_clues(room, lets), wanted)

    def test_no_lets_are_clues_where_there_is_one_floor(self):
        for room in (((0, 0),), ((4, 7),), ((0, 0), (1, 1)), ((0, 0), (0, 2), (5, 5))):
            self.assertIs(are_clues(room, ()), True)
            self.assertEqual(clued_floor(room, ()), (0,) * len(room))
            self.assertEqual((needless(room, ()), thinned(room, ()), least_many(room)), ((), (), 0))
            self.assertEqual(fewest_clues(room, (0,) * len(room)), ())
            self.assertIs(is_fewest_clues(room, (0,) * len(room), ()), True)
            self.assertIs(is_fewest_clues(room, (0,) * len(room), []), False)
            for function in (two_floors,):
                with self.assertRaises(CanNot):
                    function(room, ())
        self.assertIs(are_clues(TWO, ()), False)

    def test_several_kinds_or_none_are_no_clues(self):
        self.assertIs(are_clues(HALL, (((1, 0), (3,)), ((2, 1), (3,)))), True)
        for thing in ((((1, 0), (3, 4)), ((2, 1), (3,))), (((1, 0), (3,)), ((2, 1), (3,)), ((0, 0), (0, 1))), NOTHING,
                      (((1, 0), (3,)), ((2, 1), ())), (((2, 1), (3,)), ((1, 0), (3,))), None, 7, (((9, 9), (0,)),),
                      (((1, 0), (3,)), ((2, 1), (True,)))):
            self.assertIs(are_clues(HALL, thing), False)
        # All KINDS but one fall out here, but LETS of several KINDS are no CLUES, though one FLOOR keeps them.
        lets = (((1, 0), (3, 4)), ((2, 1), (3,)))
        self.assertEqual(clued_floor(HALL, lets), (1, 0, 3, 1, 3))
        for function in (needless, thinned):
            with self.assertRaises(CanNot):
                function(HALL, lets)

    def test_the_clued_floor_and_two_floors(self):
        for room, lets, floors in trials(113, 6) + told_trials(114, 4):
            if len(floors) == 1:
                self.assertEqual(clued_floor(room, lets), floors[0])
            else:
                with self.assertRaises(CanNot):
                    clued_floor(room, lets)
            if len(floors) > 1:
                found = two_floors(room, lets)
                self.assertIn(found, list(itertools.combinations(floors, 2)))
                self.assertIs(are_two_floors(room, lets, found), True)
            else:
                with self.assertRaises(CanNot):
                    two_floors(room, lets)

    def test_which_are_two_floors(self):
        for room, lets, floors in trials(115, 2)[::3]:
            every = floors_of(room)[:12]
            for pair in itertools.product(every, repeat=2):
                wanted = pair[0] < pair[1] and pair[0] in floors and pair[1] in floors
                self.assertIs(are_two_floors(room, lets, pair), wanted)
                self.assertIs(are_two_floors(room, lets, list(pair)), False)
                self.assertIs(are_two_floors(room, lets, (list(pair[0]), pair[1])), False)
        pair = two_floors(TWO, ())
        for thing in (None, (), pair[:1], pair + pair[:1], pair[::-1], (pair[0], pair[0]), ((0, 0, 0, 0), pair[1]), 7, "ab",
                      ((False,) + pair[0][1:], pair[1]), (pair[0], pair[1] + (0,))):
            self.assertIs(are_two_floors(TWO, (), thing), False)


class Needless(unittest.TestCase):
    def test_as_a_trial_of_all_floors(self):
        for room, lets, floors in told_trials(116, 8):
            if len(floors) != 1:
                for function, more in ((needless, ()), (thinned, ())):
                    with self.assertRaises(CanNot):
                        function(room, lets, *more)
                continue
            every = floors_of(room)
            self.assertEqual(needless(room, lets), tuple(
                square for square, _ in lets if len(kept_by(every, room, without(lets, square))) == 1))
            wanted = lets
            for square, _ in lets:
                if len(kept_by(every, room, without(wanted, square))) == 1:
                    wanted = without(wanted, square)
            self.assertEqual(thinned(room, lets), wanted)
            self.assertEqual(needless(room, wanted), ())

    def test_needless_one_by_one_but_not_together(self):
        room = ((0, 0), (1, 0))
        lets = (((0, 0), (1,)), ((1, 0), (3,)))
        self.assertEqual(needless(room, lets), room)
        self.assertIs(are_clues(room, ()), False)
        self.assertEqual(thinned(room, lets), lets[1:])

    def test_why_each_is_needed(self):
        for room, lets, floors in told_trials(117, 8):
            every = floors_of(room)
            for square, kinds in lets:
                at = room.index(square)
                wanted = [own for own in kept_by(every, room, without(lets, square)) if own[at] not in kinds]
                if len(floors) == 1 and wanted:
                    found = why_needed(room, lets, square)
                    self.assertIn(found, wanted)
                    self.assertIs(is_why_needed(room, lets, square, found), True)
                else:
                    with self.assertRaises(CanNot):
                        why_needed(room, lets, square)
                for own in every[:10]:
                    self.assertIs(is_why_needed(room, lets, square, own), len(floors) == 1 and own in wanted)
                    self.assertIs(is_why_needed(room, lets, square, list(own)), False)
            for square in [own for own in room if own not in dict(lets)] + [(70, 3), (-1, 0)]:
                for function, more in ((why_needed, ()), (is_why_needed, (None,))):
                    with self.assertRaises(NoSquare) as raised:
                        function(room, lets, square, *more)
                    self.assertEqual(raised.exception.square, square)

    def test_things_that_are_no_floors(self):
        lets = (((1, 0), (3,)), ((1, 1), (3,)))
        for thing in (None, 7, (), (1, 0, 3, 0), (True, 0, 3, 0, 0), [1, 0, 3, 0, 0], (0, 0, 0, 0, 0), "10300"):
            self.assertIs(is_why_needed(HALL, lets, (1, 1), thing), False)
        self.assertIs(is_why_needed(HALL, lets[:1], (1, 0), (0, 0, 2, 4, 0)), False)
        self.assertIs(is_why_needed(HALL, NOTHING, (0, 0), (0, 0, 2, 4, 0)), False)


class Told(unittest.TestCase):
    def test_all_and_the_rim(self):
        for room in TRIAL_ROOMS + [boxed(4, 4)]:
            edge = naive.rim(room)
            for floor in floors_of(room)[:40]:
                every = tuple((square, (kind,)) for square, kind in zip(room, floor))
                self.assertEqual(all_told(room, floor), every)
                self.assertEqual(rim_told(room, floor), tuple(pair for pair in every if pair[0] in edge))
                self.assertIs(are_clues(room, rim_told(room, floor)), True)
                self.assertEqual(clued_floor(room, rim_told(room, floor)), floor)

    def test_the_rim_of_great_rooms_is_clues(self):
        for room in (boxed(7, 14), boxed(5, 20), low_room(seeded(6), 95)):
            many = how_many(room)
            for number in (0, many // 3, many - 1):
                floor = drawn(room, (), number)
                self.assertEqual(clued_floor(room, rim_told(room, floor)), floor)

    def test_neither_is_ever_too_many(self):
        tall = boxed(20, 20)
        floor = courses(tall, 1)
        self.assertEqual(len(all_told(tall, floor)), 400)
        self.assertEqual(len(rim_told(tall, floor)), 76)


class Fewest(unittest.TestCase):
    def test_by_a_trial_of_all_lots_of_squares(self):
        for room in TRIAL_ROOMS:
            if len(room) > 10:
                continue
            floors = floors_of(room)
            fewest = []
            for floor in floors[:25]:
                many = fewest_of(room, floors, floor)
                fewest.append(many)
                found = fewest_clues(room, floor)
                self.assertEqual(len(found), many)
                self.assertEqual(kept_by(floors, room, found), [floor])
                self.assertIs(are_clues(room, found), True)
                self.assertIs(is_fewest_clues(room, floor, found), True)
                for other in floors[:5]:
                    self.assertIs(is_fewest_clues(room, other, found), other == floor)
            if len(floors) <= 25:
                self.assertEqual(least_many(room), min(fewest))

    def test_which_are_of_the_fewest(self):
        for room in (HALL, TWO, ((0, 0), (1, 0), (2, 0), (4, 4))):
            floors = floors_of(room)
            for floor in floors:
                many = fewest_of(room, floors, floor)
                for size in range(len(room) + 1):
                    for squares in itertools.combinations(range(len(room)), size):
                        lets = tuple((room[at], (floor[at],)) for at in squares)
                        wanted = size == many and kept_by(floors, room, lets) == [floor]
                        self.assertIs(is_fewest_clues(room, floor, lets), wanted)
                        self.assertIs(is_fewest_clues(room, floor, listed(lets)), False)
        for thing in (None, 7, (), NOTHING, (((1, 0), (3, 4)), ((2, 1), (3,))), (((1, 0), (3,)), ((2, 1), (True,)))):
            self.assertIs(is_fewest_clues(HALL, (1, 0, 3, 1, 3), thing), False)

    def test_rooms_of_sixteen_squares(self):
        self.assertEqual(how_many(ROW[:16]), 1597)
        self.assertEqual(least_many(ROW[:16]), 5)
        self.assertEqual(len(fewest_clues(ROW[:16], (0,) * 16)), 8)
        self.assertEqual(len(fewest_clues(ROW[:16], (1, 3) * 8)), 8)
        # A mat over the second and the third of each three SQUARES leaves no place for others.
        self.assertEqual(len(fewest_clues(ROW[:16], (0, 1, 3) * 5 + (0,))), 5)
        four = boxed(4, 4)
        floors = all_floors(four)
        fewest = [len(fewest_clues(four, floor)) for floor in floors]
        self.assertEqual(least_many(four), min(fewest))
        self.assertTrue(all(is_fewest_clues(four, floor, fewest_clues(four, floor)) for floor in floors[::9]))
        self.assertEqual(least_many(tuple((3 * x + i, 0) for x in range(8) for i in range(2))), 8)

    def test_rooms_of_more(self):
        for room in (ROW, tuple((2 * x, 0) for x in range(17)), boxed(1, 17), boxed(3, 6)):
            floor = courses(room, 0)
            for function, told in ((fewest_clues, (floor,)), (is_fewest_clues, (floor, None)), (least_many, ())):
                with self.assertRaises(TooMany):
                    function(room, *told)
        self.assertEqual(least_many(tuple((2 * x, 0) for x in range(16))), 0)

    def test_more_than_two_thousand_floors(self):
        ring = tuple(square for square in boxed(5, 5) if square in naive.rim(boxed(5, 5)))
        wild = ((2, 4), (2, 5), (2, 6), (3, 3), (3, 4), (3, 6), (4, 4), (4, 5), (4, 6), (5, 3), (5, 4), (5, 6), (6, 4),
                (6, 5), (6, 6), (7, 4))
        for room, many, fewest in ((ring, 2207, 6), (wild, 2001, 5)):
            self.assertEqual((len(room), how_many(room)), (16, many))
            for function, told in ((fewest_clues, ((0,) * 16,)), (is_fewest_clues, ((0,) * 16, None)), (least_many, ())):
                with self.assertRaises(TooMany):
                    function(room, *told)
            # Just as many as are let are not too many.
            with mock.patch("tatamirooms.clues.MOST_FLOORS", many):
                self.assertEqual(least_many(room), fewest)
            with mock.patch("tatamirooms.clues.MOST_FLOORS", many - 1), self.assertRaises(TooMany):
                least_many(room)
            # One SQUARE less, and they are few enough.
            less = room[:-1]
            self.assertLess(how_many(less), 2000)
            self.assertIs(is_fewest_clues(less, (0,) * 15, fewest_clues(less, (0,) * 15)), True)
            self.assertLessEqual(least_many(less), len(fewest_clues(less, (0,) * 15)))


class Hints(unittest.TestCase):
    def test_as_a_trial_of_all_floors(self):
        none = 0
        for room, lets, floors in trials(118, 6) + told_trials(119, 6):
            held = [square for square, kinds in lets if len(kinds) == 1]
            sure = [(square, floors[0][at]) for at, square in enumerate(room)
                    if floors and square not in held and len({floor[at] for floor in floors}) == 1]
            if sure:
                self.assertEqual(hint(room, lets), sure[0])
            else:
                none += 1
                with self.assertRaises(CanNot):
                    hint(room, lets)
        self.assertGreater(none, 100)

    def test_one_floor_and_none(self):
        self.assertEqual(hint(((0, 0),), ()), ((0, 0), 0))
        self.assertEqual(hint(((0, 0),), (((0, 0), (0, 1)),)), ((0, 0), 0))
        for lets in ((((0, 0), (0,)),), (((0, 0), ()),), (((0, 0), (1, 2)),)):
            with self.assertRaises(CanNot):
                hint(((0, 0),), lets)


class Refused(unittest.TestCase):
    def test_in_which_order(self):
        lets = (((0, 3), (0,)),)
        floor = (0,) * 8
        asked = ((are_clues, (None,)), (clued_floor, (lets,)), (two_floors, (lets,)), (are_two_floors, (lets, None)),
                 (needless, (lets,)), (thinned, (lets,)), (why_needed, (lets, (0, 3))),
                 (is_why_needed, (lets, (0, 3), None)), (fewest_clues, (floor,)), (is_fewest_clues, (floor, None)),
                 (least_many, ()), (hint, (lets,)))
        for function, told in asked:
            with self.assertRaises(TooMany):
                function(HIGH, *told)
            with self.assertRaises(Unfit):
                function(HIGH[::-1], *told)
            for wrong in ((((0, 8), (0,)),), (0,) * 7):
                if told[:1] and function not in (are_clues,):
                    with self.assertRaises(Unfit):
                        function(HIGH, wrong, *told[1:])
        for function, more in ((why_needed, ()), (is_why_needed, (None,))):
            with self.assertRaises(NoSquare):
                function(HIGH, lets, (0, 4), *more)
            with self.assertRaises(NoSquare):
                function(TWO, NOTHING, [1, 1], *more)
            with self.assertRaises(Unfit):
                function(HIGH, lets, (0, True), *more)
            with self.assertRaises(Unfit):
                function(HIGH, (((9, 9), (0,)),), (0, 4), *more)
        with self.assertRaises(CanNot):
            why_needed(TWO, NOTHING, (0, 0))

    def test_lists_and_names(self):
        lets = [[[1, 0], [3]], [[2, 1], [3]]]
        self.assertEqual(clued_floor(room=listed(HALL), lets=lets), (1, 0, 3, 1, 3))
        self.assertEqual(thinned(room=listed(HALL), lets=lets), (((1, 0), (3,)), ((2, 1), (3,))))
        self.assertEqual(lets, [[[1, 0], [3]], [[2, 1], [3]]])
        self.assertEqual(rim_told(room=listed(TWO), floor=[0, 0, 2, 4])[0], ((0, 0), (0,)))


if __name__ == "__main__":
    unittest.main()
