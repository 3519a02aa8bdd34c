"""Calls that are asked many times: what they answer, and how much work one of them is."""

import sys
import unittest

from tatamirooms.errors import CanNot, TooMany
from tatamirooms.floors import all_floors
from tatamirooms.rims import border, borders, inside, is_border
from tatamirooms.rooms import boxed
from tatamirooms.steps import left, next_sure
from tests import naive

LONG = tuple((x, 0) for x in range(16))
ROW = tuple((x, 0) for x in range(60))
TEN = boxed(10, 10)
TOLD = tuple((square, (1,) if square == (0, 0) else (1, 3)) for square in ROW)
# Mats from the west on, two SQUARES each: nothing else can be where each SQUARE is joined east or west.
MATS = (1, 3) * 30


def asked(function, *told):
    """How many functions are called, of the package or of Python, till function answers or refuses."""
    many = 0

    def count(frame, event, argument):
        nonlocal many
        many += event in ("call", "c_call")

    sys.setprofile(count)
    try:
        function(*told)
    except (CanNot, TooMany):
        pass
    finally:
        sys.setprofile(None)
    return many


class Answers(unittest.TestCase):
    def test_borders_of_rows(self):
        for many, wanted in ((16, 1597), (12, 233)):
            for room in (LONG[:many], tuple((0, y) for y in range(many))):
                found = borders(room)
                self.assertEqual(len(found), wanted)
                self.assertEqual(found, sorted(set(found)))
                self.assertTrue(all(naive.is_floor(room, own) for own in found[::40]))
        found.append("mine")
        self.assertEqual(len(borders(room)), 233)

    def test_half_mats_alone_round_ten_by_ten(self):
        self.assertIs(is_border(TEN, (0,) * 36), False)
        with self.assertRaises(CanNot):
            inside(TEN, (0,) * 36)

    def test_a_long_row_of_mats(self):
        self.assertEqual(left(ROW, TOLD), tuple((square, (kind,)) for square, kind in zip(ROW, MATS)))
        self.assertEqual(next_sure(ROW, TOLD), ((1, 0), 3))
        self.assertEqual(inside(ROW, MATS), MATS)


class Work(unittest.TestCase):
    # Told by calls, not by a clock: so it is the same on each machine.
    def test_one_call_is_not_much(self):
        five = boxed(5, 5)
        told_by = border(five, all_floors(five)[9])
        for most, function, told in (
                (4000, borders, (LONG,)), (2000, borders, (LONG[:12],)), (4000, borders, (boxed(16, 1),)),
                (5000, is_border, (TEN, (0,) * 36)), (5000, inside, (TEN, (0,) * 36)), (5000, left, (ROW, TOLD)),
                (5000, next_sure, (ROW, TOLD)), (3000, inside, (ROW, MATS)), (2000, borders, (boxed(1, 17),)),
                (3000, inside, (five, told_by))):
            with self.subTest(function=function.__name__, room=len(told[0])):
                self.assertLess(asked(function, *told), most)


if __name__ == "__main__":
    unittest.main()
