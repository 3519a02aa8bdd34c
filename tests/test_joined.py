"""Rooms side by side [24]."""

import itertools
import unittest

from tatamirooms.counts import how_many
from tatamirooms.drawn import drawn
from tatamirooms.errors import CanNot, TooMany, Unfit
from tatamirooms.floors import is_floor, mats
from tatamirooms.joined import (
    east_words, is_east_half, is_west_half, many_crossed, many_joined, parted, put_together, seam, seam_fits, seam_points,
    side_by_side, west_words)
from tests import naive
from tests.naive import boxed, floors_of, listed, low_room, seeded

COL = boxed(2, 1)
TWO = boxed(2, 2)
HIGH = boxed(8, 1)
# Pairs of ROOMS, and how far the second one goes down: whole sides, parts of them, corners alone, nothing at all.
PAIRS = [
    (COL, COL, 0), (COL, COL, 1), (COL, TWO, 0), (TWO, COL, 0), (TWO, TWO, 0), (TWO, TWO, 1), (TWO, TWO, 2), (TWO, TWO, 3),
    (boxed(3, 1), boxed(3, 1), 0), (boxed(3, 1), boxed(3, 2), 1), (boxed(3, 2), boxed(2, 1), 1), (boxed(3, 1), COL, 2),
    (((0, 0),), ((5, 5),), -5), (((0, 0),), ((5, 5),), -4), (((2, 3),), ((0, 0),), 3), (((2, 3),), ((0, 0),), 0),
    (((0, 0), (0, 2)), boxed(3, 1), 0), (((0, 0), (0, 1), (0, 3)), ((0, 0), (0, 1), (0, 3)), 0),
    (boxed(3, 1), ((4, 4), (4, 5), (4, 6), (5, 5)), -4), (((0, 1), (1, 0), (1, 1), (1, 2)), boxed(3, 1), 0),
    (((0, 0), (2, 0), (2, 1)), ((1, 0), (1, 1), (4, 4)), 0), (((0, 4), (0, 5), (1, 5)), ((9, 0), (9, 1), (10, 0)), 4),
    (boxed(4, 1), boxed(4, 1), 0), (boxed(2, 3), boxed(1, 1), 1),
    # Three across here cannot be: no two POINTS of the next COLUMN are both held.
    (boxed(3, 2), boxed(3, 1), 0), (boxed(3, 1), boxed(3, 2), 0)]


def moved(room, other, down):
    """The SQUARES of other set beside room."""
    more = max(x for x, _ in room) + 1 - min(x for x, _ in other)
    return tuple(sorted((x + more, y + down) for x, y in other))


def sides(room, east):
    return [(a, b) for a in room for b in east if b in naive.beside(a)]


def halves(room, edge, across):
    """All HALVES: KINDS of room that fit, those of edge maybe joined out of it by across, by a trial of all."""
    rows = [()]
    for square in room:
        kinds = [k for k in range(5) if k == 0 or naive.partner(square, k) in room or (k == across and square in edge)]
        rows = [row + (kind,) for row in rows for kind in kinds]
    found = []
    for row in rows:
        table = dict(zip(room, row))
        if all(naive.two_fit(a, table[a], b, table[b]) for a, b in naive.pairs(room)):
            if all(naive.point_fits(point, table) for point in naive.points(room)):
                found.append(row)
    return found


class Told:
    """A pair of ROOMS with its SEAM, SEAM POINTS and HALVES, told slowly."""

    def __init__(self, room, other, down):
        self.room, self.east = room, moved(room, other, down)
        self.whole = tuple(sorted(room + self.east))
        self.seam = sides(room, self.east)
        self.points = [point for point in naive.points(self.whole)
                       if sum(square in room for square in naive.about(point)) == 2]
        self.wests = halves(room, [a for a, _ in self.seam], 1)
        self.easts = halves(self.east, [b for _, b in self.seam], 3)

    def word(self, half, own, side, across):
        table = dict(zip(own, half))
        crossed = tuple(at for at, pair in enumerate(self.seam) if table[pair[side]] == across)
        held = []
        for at, point in enumerate(self.points):
            a, b = [square for square in naive.about(point) if square in own]
            if naive.partner(a, table[a]) == b:
                held.append(at)
        return crossed, tuple(held)

    def west_word(self, half):
        return self.word(half, self.room, 0, 1)

    def east_word(self, half):
        return self.word(half, self.east, 1, 3)



def go_together(told_seam, told_points, west, east):
    """Whether two WORDS go together: as many across, each SEAM POINT held, or a pair joined across about it."""
    fours = [naive.about(point) for point in told_points]
    crossed = [told_seam[at] for at in west[0]]
    return west[0] == east[0] and all(
        at in west[1] or at in east[1] or any(a in four and b in four for a, b in crossed) for at, four in enumerate(fours))


def counted(words):
    return sorted((across, held, words.count((across, held))) for across, held in set(words))


class Joined(unittest.TestCase):
    def test_the_room_and_its_seam(self):
        for room, other, down in PAIRS:
            told = Told(room, other, down)
            self.assertEqual(side_by_side(room, other, down), told.whole)
            self.assertEqual(seam(room, other, down), tuple(sorted(told.seam)))
            self.assertEqual(seam_points(room, other, down), tuple(sorted(told.points)))

    def test_which_are_halves(self):
        for room, other, down in PAIRS:
            told = Told(room, other, down)
            for function, own, wanted in ((is_west_half, room, told.wests), (is_east_half, told.east, told.easts)):
                if len(own) <= 4:
                    for thing in itertools.product(range(5), repeat=len(own)):
                        self.assertIs(function(room, other, down, thing), thing in wanted)
                for thing in wanted[::5]:
                    self.assertIs(function(room, other, down, thing), True)
                    self.assertIs(function(room, other, down, list(thing)), False)
                    self.assertIs(function(room, other, down, thing[:-1] + (thing[-1] + 5,)), False)
                for thing in (None, (), 7, "0" * len(own), (False,) * len(own), (0,) * (len(own) + 1)):
                    self.assertIs(function(room, other, down, thing), False)

    def test_floors_of_room_are_west_halves_without_across(self):
        for room, other, down in PAIRS:
            told = Told(room, other, down)
            self.assertEqual([half for half in told.wests if not told.west_word(half)[0]], list(floors_of(room)))

    def test_each_floor_is_two_halves_in_one_way(self):
        for room, other, down in PAIRS:
            told = Told(room, other, down)
            found = set()
            for floor in floors_of(told.whole):
                west, east = parted(room, other, down, floor)
                table = dict(zip(told.whole, floor))
                self.assertEqual((west, east), (tuple(table[own] for own in room), tuple(table[own] for own in told.east)))
                self.assertIn(west, told.wests)
                self.assertIn(east, told.easts)
                self.assertIs(seam_fits(room, other, down, west, east), True)
                self.assertEqual(put_together(room, other, down, list(west), east), floor)
                found.add((west, east))
            self.assertEqual(len(found), len(floors_of(told.whole)))

    def test_two_halves_are_a_floor_exactly_if_their_words_go_together(self):
        for room, other, down in PAIRS:
            told = Told(room, other, down)
            many = 0
            for west, east in itertools.product(told.wests[:70], told.easts[:70]):
                wanted = go_together(told.seam, told.points, told.west_word(west), told.east_word(east))
                self.assertIs(seam_fits(room, other, down, west, east), wanted)
                if wanted:
                    many += 1
                    floor = put_together(room, other, down, west, east)
                    self.assertTrue(is_floor(told.whole, floor))
                    self.assertEqual(parted(room, other, down, floor), (west, east))
                else:
                    with self.assertRaises(CanNot):
                        put_together(room, other, down, west, east)
            if len(told.wests) <= 70 and len(told.easts) <= 70:
                self.assertEqual(many, len(floors_of(told.whole)))

    def test_a_point_held_from_either_side(self):
        fits = [seam_fits(COL, COL, 0, *own) for own in itertools.product(((0, 0), (2, 4)), repeat=2)]
        self.assertEqual(fits, [False, True, True, True])

    def test_words(self):
        for room, other, down in PAIRS:
            told = Told(room, other, down)
            west, east = west_words(room, other, down), east_words(room, other, down)
            self.assertEqual(west, counted([told.west_word(half) for half in told.wests]))
            self.assertEqual(east, counted([told.east_word(half) for half in told.easts]))
            west.append(None)
            self.assertEqual(west_words(room, other, down), west[:-1])

    def test_how_many(self):
        for room, other, down in PAIRS:
            told = Told(room, other, down)
            floors = floors_of(told.whole)
            self.assertEqual(many_joined(room, other, down), len(floors))
            across = [sum(pair in told.seam for pair in mats(told.whole, floor)) for floor in floors]
            for many in range(-2, len(told.seam) + 3):
                self.assertEqual(many_crossed(room, other, down, many), across.count(many))
            self.assertEqual(many_crossed(room, other, down, 10 ** 40), 0)

    def test_great_rooms(self):
        chance = seeded(151)
        for room, other, down in ((boxed(7, 7), boxed(7, 7), 0), (boxed(5, 9), boxed(7, 4), 0), (boxed(7, 6), boxed(3, 14), 2),
                                  (low_room(chance, 50), low_room(chance, 45), 1), (boxed(1, 30), boxed(1, 30), 0)):
            whole = side_by_side(room, other, down)
            told_seam, told_points = seam(room, other, down), seam_points(room, other, down)
            self.assertEqual(many_joined(room, other, down), how_many(whole))
            words = east_words(room, other, down)
            total = 0
            for *west, many in west_words(room, other, down):
                for *east, other_many in words:
                    if go_together(told_seam, told_points, west, east):
                        total += many * other_many
            self.assertEqual(total, how_many(whole))
            self.assertEqual(sum(many_crossed(room, other, down, many) for many in range(8)), total)
            self.assertEqual(sum(many for across, _, many in west_words(room, other, down) if not across), how_many(room))
            floor = drawn(whole, (), total // 2)
            self.assertEqual(put_together(room, other, down, *parted(room, other, down, floor)), floor)


class Refused(unittest.TestCase):
    ASKED = ((side_by_side, ()), (seam, ()), (seam_points, ()), (is_west_half, (None,)), (is_east_half, (None,)),
             (parted, (None,)), (seam_fits, (None, None)), (put_together, (None, None)), (west_words, ()), (east_words, ()),
             (many_joined, ()), (many_crossed, (None,)))

    def refused(self, error, function, *told):
        with self.assertRaises(error):
            function(*told)

    def test_what_would_stand_below(self):
        for function, more in self.ASKED:
            # CanNot() stands ahead of Unfit() for what comes behind, and behind Unfit() for the three ahead.
            for other, down in ((COL, -1), (((7, 3),), -4), (((0, 0), (1, 9)), -1), (HIGH, -10 ** 30)):
                self.refused(CanNot, function, COL, other, down, *more)
                self.refused(CanNot, function, HIGH, other, down, *more)
            for room, other, down in ((COL[::-1], COL, -1), (COL, COL[::-1], -1), (COL, COL, True), (COL, COL, "0"), ((), COL, 0),
                                      (COL, (), 0), (COL, None, -1), (COL, COL, None), (COL, COL, 0.0)):
                self.refused(Unfit, function, room, other, down, *more)
        self.assertEqual(side_by_side(COL, ((7, 3),), -3), ((0, 0), (0, 1), (1, 0)))
        self.assertEqual(side_by_side(((9, 0),), ((7, 3), (8, 3)), 10), ((9, 0), (10, 13), (11, 13)))

    def test_floors_and_halves(self):
        for floor in ((0, 0, 0, 0), (1, 0, 3), None, (1, 0, 3, True)):
            self.refused(Unfit, parted, COL, COL, 0, floor)
        for function in (seam_fits, put_together):
            for laid in ((3, 0), (2, 0), (0, 4), (1,), None, (True, 0), (4, 4)):
                self.refused(Unfit, function, COL, COL, 0, laid, (0, 0))
            for laid in ((1, 0), (2, 0), (0, 4), (3,), None, (3, True)):
                self.refused(Unfit, function, COL, COL, 0, (0, 0), laid)
            # Joined across where there is no SEAM.
            self.refused(Unfit, function, COL, COL, 1, (1, 0), (0, 0))
            self.refused(Unfit, function, COL, COL, 2, (0, 1), (0, 0))
        self.refused(CanNot, put_together, COL, COL, 0, (1, 0), (0, 0))
        self.refused(CanNot, put_together, COL, COL, 0, (1, 0), (0, 3))
        self.assertIs(seam_fits(COL, COL, 0, [1, 0], [3, 0]), True)

    def test_too_many_behind_unfit(self):
        for room, other in ((HIGH, COL), (COL, HIGH), (HIGH, HIGH), (COL, boxed(9, 2))):
            for function, more in ((west_words, ()), (east_words, ()), (many_joined, ()), (many_crossed, (0,))):
                self.refused(TooMany, function, room, other, 0, *more)
            for many in (None, True, "0", (0,)):
                self.refused(Unfit, many_crossed, room, other, 0, many)
            self.assertEqual(len(side_by_side(room, other, 0)), len(room) + len(other))
        self.assertIs(seam_fits(HIGH, HIGH, 0, (0,) * 8, (2, 4) * 4), False)
        self.assertIs(seam_fits(HIGH, HIGH, 0, (1,) * 8, (3,) * 8), True)
        self.assertEqual(parted(HIGH, HIGH, 0, (1,) * 8 + (3,) * 8), ((1,) * 8, (3,) * 8))
        # A long row of both is not too many.
        self.assertEqual(many_joined(boxed(1, 20), boxed(1, 20), 0), how_many(boxed(1, 40)))

    def test_lists_and_names(self):
        self.assertEqual(seam(room=listed(COL), other=listed(COL), down=1), (((0, 1), (1, 1)),))
        self.assertEqual(put_together(room=listed(COL), other=COL, down=0, laid=[1, 1], other_laid=[3, 3]), (1, 1, 3, 3))


if __name__ == "__main__":
    unittest.main()
