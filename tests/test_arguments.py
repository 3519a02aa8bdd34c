"""The general rules [2] and [3]: what may be handed in, how, and what is refused, in which order."""

import copy
import importlib
import unittest

from tatamirooms.errors import CanNot, NoPoint, NoSquare, TooMany, Unfit
from tests.naive import boxed, listed
from tests.test_interface import INTERFACE

ROOM = boxed(3, 3)
FLOOR = (1, 2, 4, 3, 0, 1, 2, 4, 3)
OTHER = (0, 0, 1, 2, 4, 3, 0, 2, 4)
LETS = (((0, 0), (1,)), ((2, 0), (0, 2)))
STEPS = (((0, 0), 1, ((0, 0), (1, 0))),)

# A fit value for each argument, by its name; some functions need another one.
FIT = {
    "text": "room 1 # a\n2", "words": [("room", 0), ("2", 1)], "word": "12", "thing": None, "room": ROOM,
    "square": (1, 1), "point": (1, 1), "high": 2, "wide": 3, "laid": OTHER[:8] + (1,), "spot": ((0, 0), (1, 0)),
    "kind": 1, "other": 3, "kinds": (2, 4, 0, 0), "floor": FLOOR, "number": 2, "many": 5,
    "lot": (((0, 0),), ((0, 1),)), "lets": LETS, "border": (1, 2, 4, 3, 1, 2, 4, 3), "steps": STEPS,
}
FIT_IN = {
    "seen_alike": {"other": ((0, 0), (0, 1), (1, 1))}, "floors_alike": {"other": OTHER},
    "square_more": {"square": (3, 1)}, "left_by": {"lets": (((1, 0), (0,)),)},
    "why_no_border": {"border": (0,) * 8}, "is_steps": {"thing": STEPS, "lets": (((1, 0), (0,)),)},
    "by_mats": {"lot": (((0, 0), (1, 0)), ((0, 1), (0, 2)), ((1, 1),), ((1, 2), (2, 2)), ((2, 0), (2, 1)))},
    "is_room": {"thing": ROOM}, "is_square": {"thing": (2, 2)}, "is_kind": {"thing": 4},
    "is_laid": {"thing": OTHER}, "is_spot": {"thing": ((0, 0), (0, 1))}, "is_floor": {"thing": FLOOR},
    "is_border": {"thing": (1, 2, 4, 3, 1, 2, 4, 3)}, "next_sure": {"lets": (((0, 0), (1,)),)},
}

NO_NUMBERS = [None, True, False, "1", "", 1.0, (1,), [0], {}, object(), b"1"]
NO_PAIRS = NO_NUMBERS + [7, (), (0,), (0, 0, 0), (0, True), (False, 0), ("0", "0"), "00", (0, None), ((0, 0),), {0, 1},
                         {0: 0, 1: 1}, (0.0, 0), b"00"]
NO_ROOMS = NO_NUMBERS + [
    7, (), [], (0, 0), ((0, 0), (0, 0)), ((1, 0), (0, 0)), ((0, 1), (0, 0)), ((0, 0), (-1, 0)), ((-1, 0),), ((0, -1),),
    ((0, True),), ((0, 0), (0, True)), ((0, 0, 0),), ((0,),), ((0, "0"),), (None,), ((0, 0), None), "ab", ("00",),
    {(0, 0)}, {(0, 0): 1}, (((0, 0), (0, 1)),), ((0, 0.0),)]
NO_KINDS = NO_NUMBERS + [-1, 5, 10 ** 30]


def no_rows(many):
    """What is no tuple of so many KINDS."""
    good = [0] * many
    return NO_NUMBERS + [7, good + [0], good[1:], good[1:] + [5], good[1:] + [-1], good[1:] + [True],
                         good[1:] + [None], [False] * many, "0" * many, b"0" * many, {0: 1}]


NO_FLOORS = no_rows(9) + [(0,) * 9, OTHER[:8] + (1,), (3,) + OTHER[1:], FLOOR[:8] + (0,)]
NO_LETS = NO_NUMBERS + [
    7, (None,), ((0, 0),), (((0, 0),),), (((0, 0), 1),), (((0, 0), (1,), 0),), (((0, 0), (5,)),), (((0, 0), (-1,)),),
    (((0, 0), (2, 1)),), (((0, 0), (1, 1)),), (((0, 0), (True,)),), (((3, 0), (0,)),), (((0, -1), (0,)),),
    (((0, 0), (0,)), ((0, 0), (1,))), (((0, 1), (0,)), ((0, 0), (0,))), (((0, 0), (0,)), ((0, 0), (0,))), "ab",
    ((("0", 0), (0,)),), (((0, True), (0,)),), {((0, 0), (0,))}, (((0, 0), "1"),), (((0, 0), None),)]
NO_LOTS = NO_NUMBERS + [
    7, (None,), ((0, 0),), (((0, 0), (1, 1)),), (((1, 0), (0, 0)),), (((0, 0), (0, 0)),), (((0, 0), (0, 1), (0, 2)),),
    (((3, 0),),), (((2, 0), (3, 0)),), (((0, 1),), ((0, 0),)), (((0, 0),), ((0, 0),)), ((),), "ab", (((0, True),),)]
NO_SPOTS = NO_NUMBERS + [
    7, (), (None,), (0, 0), ((0, 0), (1, 1)), ((1, 0), (0, 0)), ((0, 0), (0, 0)), ((0, 0), (0, 2)), ((3, 0),),
    ((2, 0), (3, 0)), ((0, 0), (0, 1), (1, 0)), ((0, 1), (0, 0), (1, 0), (1, 1)), "ab", ((0, True),), ((0, -1),),
    ((2, 2), (2, 3), (3, 2), (3, 3)), ((0, 0), (0, 1), (1, 0), (1, 1), (1, 2)), {(0, 0)}]
NO_STEPS = NO_NUMBERS + [
    7, (None,), ((0, 0),), (((0, 0), 1),), (((0, 0), 2, ((0, 0), (0, 1))),), (((0, 0), 1, ((0, 0),)),),
    STEPS + STEPS, (((0, 0), 1, ((1, 0), (0, 0))),), (((9, 0), 1, ((0, 0),)),), (((0, 0), True, ((0, 0), (1, 0))),),
    (((0, 0), 1, ((0, 0), (1, 0)), 0),), (((0, 0), 7, ((0, 0),)),), "abc"]
NO_WORDS = NO_NUMBERS[:2] + [
    7, [None], ["ab"], [("a", 0, 0)], [("a",)], [("", 0)], [("A", 0)], [("a b", 0)], [("a", -1)], [("a", True)],
    [("a", "0")], [("a", 1), ("b", 0)], [(0, 0)], [("a#", 0)], [("a\n", 0)]]

NOT_FIT = {
    "words": NO_WORDS, "room": NO_ROOMS, "square": NO_PAIRS, "point": NO_PAIRS, "high": NO_NUMBERS + [0, -1],
    "wide": NO_NUMBERS + [0, -1], "laid": no_rows(9), "spot": NO_SPOTS, "kind": NO_KINDS, "other": NO_KINDS,
    "kinds": no_rows(4), "floor": NO_FLOORS, "number": NO_NUMBERS + [-1, 8], "many": NO_NUMBERS + [-1, 8],
    "lot": NO_LOTS, "lets": NO_LETS, "border": no_rows(8), "steps": NO_STEPS,
}
NOT_FIT_IN = {
    "seen_alike": {"other": NO_ROOMS}, "floors_alike": {"other": NO_FLOORS},
    "courses": {"number": NO_NUMBERS + [-1, 4, 5]}, "square_more": {"square": NO_PAIRS + [(-1, 0), (0, -1)]},
}
NOT_ASKED = ("text", "word", "thing")
NOT_ASKED_IN = {"word_of": ("number",)}

# What a thing may be: values of all kinds, and some nested deep.
DEEP = ()
for _ in range(19):
    DEEP = (DEEP,)
THINGS = [
    None, True, False, 0, 1, -1, 4, 5, 10 ** 60, "", "0", "room", (), [], (0,), [0], (True,), (0, 0), [0, 0], (0, True),
    (True, False), ("0", "0"), (None, None), ((0, 0),), ([0, 0],), [(0, 0)], ((0, 0), 1), ((0, 0), "a"), ((0, 0), None),
    ((0, 0), (0, "a")), ((0, 0), ("a", 0)), ((0, 0), (0, 0)), ((0, 0), (0, True)), (((0, 0), (0, 1)),), DEEP, [DEEP],
    (0,) * 9, [0] * 9, (False,) * 9, ("0",) * 9, FLOOR, list(FLOOR), FLOOR[:8] + (None,), (10 ** 50, 0), (-1, -1),
    (((0, 0), 1, ((0, 0), (1, 0))),), (((0, 0), True, ((0, 0), (1, 0))),), [((0, 0), 1, ((0, 0), (1, 0)))],
    (((0, 0), 1, [(0, 0), (1, 0)]),), ((0, 1, 2),), tuple(range(1000)), "a" * 10000, (((0, 0), 2, ((0, 0),)),) * 500,
    (1, 2, 4, 3, 1, 2, 4, 3), [1, 2, 4, 3, 1, 2, 4, 3], (True, 2, 4, 3, 1, 2, 4, 3)]

GOOD_THINGS = {
    "is_room": [((0, 0),)], "is_square": [(0, 0)], "is_kind": [0, 1, 4], "is_laid": [(0,) * 9, FLOOR],
    "is_spot": [((0, 0),)], "is_floor": [FLOOR], "is_border": [(1, 2, 4, 3, 1, 2, 4, 3)], "is_steps": [(), STEPS]}


def functions():
    """The triples (name, function, names of its arguments) of the interface."""
    for module, told in INTERFACE.items():
        own = importlib.import_module("tatamirooms." + module)
        for name, arguments in told.items():
            yield name, getattr(own, name), arguments.split()


def fit_values(name, arguments):
    """The fit values for the arguments of the function called name."""
    return {**{own: FIT[own] for own in arguments}, **FIT_IN.get(name, {})}


class Arguments(unittest.TestCase):
    def test_by_position_and_by_name_with_lists_for_tuples(self):
        for name, function, arguments in functions():
            with self.subTest(name=name):
                values = fit_values(name, arguments)
                given = function(*[values[own] for own in arguments])
                self.assertEqual(function(**values), given)
                swapped = {own: value if own == "thing" else listed(value) for own, value in values.items()}
                again = function(**swapped)
                self.assertEqual(again, given)
                self.assertEqual(repr(again), repr(given))

    def test_nothing_that_is_handed_in_is_changed(self):
        for name, function, arguments in functions():
            with self.subTest(name=name):
                values = {own: listed(value) for own, value in fit_values(name, arguments).items()}
                kept = copy.deepcopy(values)
                function(**values)
                self.assertEqual(repr(values), repr(kept))

    def test_returned_lists_are_new(self):
        for name, function, arguments in functions():
            values = fit_values(name, arguments)
            given = function(**values)
            if isinstance(given, list):
                with self.subTest(name=name):
                    kept = list(given)
                    given.append("mine")
                    self.assertEqual(function(**values), kept)

    def test_what_is_not_as_told_is_unfit(self):
        for name, function, arguments in functions():
            values = fit_values(name, arguments)
            for own in arguments:
                if own in NOT_ASKED or own in NOT_ASKED_IN.get(name, ()):
                    continue
                for wrong in NOT_FIT_IN.get(name, {}).get(own, NOT_FIT[own]):
                    with self.subTest(name=name, argument=own, wrong=wrong), self.assertRaises(Unfit):
                        function(**{**values, own: wrong})

    def test_unfit_stands_ahead_of_no_square_and_no_point(self):
        for name, function, arguments in functions():
            absent = [own for own in arguments if own in ("square", "point") and name != "square_more"]
            if not absent:
                continue
            values = {**fit_values(name, arguments), absent[0]: (7, 7)}
            error = NoPoint if absent == ["point"] else NoSquare
            for told in ((7, 7), [7, 7], (-1, 0), (0, 3)):
                with self.subTest(name=name, told=told):
                    with self.assertRaises(error) as raised:
                        function(**{**values, absent[0]: told})
                    self.assertEqual(vars(raised.exception), {absent[0]: tuple(told)})
                    self.assertIs(tuple, getattr(raised.exception, absent[0]).__class__)
            for own in arguments:
                if own == absent[0]:
                    continue
                for wrong in NOT_FIT_IN.get(name, {}).get(own, NOT_FIT[own]):
                    with self.subTest(name=name, argument=own, wrong=wrong), self.assertRaises(Unfit):
                        function(**{**values, own: wrong})

    def test_thing_may_be_anything(self):
        for name, function, arguments in functions():
            if "thing" not in arguments:
                continue
            values = fit_values(name, arguments)
            # Told by repr: Python itself takes True for 1.
            good = [repr(thing) for thing in GOOD_THINGS[name]]
            self.assertIs(function(**values), True)
            for thing in THINGS:
                with self.subTest(name=name, thing=thing):
                    self.assertIs(function(**{**values, "thing": thing}), repr(thing) in good)

    def test_errors_for_the_others_are_raised_whatever_thing_is(self):
        for name, function, arguments in functions():
            if "thing" not in arguments:
                continue
            for own in arguments:
                for thing in THINGS if own != "thing" else []:
                    with self.subTest(name=name, thing=thing), self.assertRaises(Unfit):
                        function(**{**fit_values(name, arguments), own: (((9, 9), (7,)),), "thing": thing})

    def test_things_that_are_true_only_for_numbers_and_tuples(self):
        rooms = importlib.import_module("tatamirooms.rooms")
        kinds = importlib.import_module("tatamirooms.kinds")
        self.assertEqual([rooms.is_room(own) for own in (((0, 0), (0, 10 ** 40)), ((True, 0),), ([0, 0],), [(0, 0)])],
                         [True, False, False, False])
        self.assertEqual([rooms.is_square(ROOM, own) for own in ((0, 1), (0, True), [0, 1], (0, 3), (0, 1, 2), "01")],
                         [True, False, False, False, False, False])
        self.assertEqual([kinds.is_kind(own) for own in (0, 4, 5, -1, True, False, None, "1", (1,), 10 ** 60)],
                         [True, True] + [False] * 8)
        self.assertEqual([kinds.is_laid(((0, 0), (0, 1)), own) for own in ((1, 1), [1, 1], (True, 1), (1,), (1, 5))],
                         [True, False, False, False, False])

    def test_a_great_thing(self):
        rooms = importlib.import_module("tatamirooms.rooms")
        great = boxed(200, 200)
        self.assertTrue(rooms.is_room(great))
        self.assertFalse(rooms.is_room(great + ((0, 0),)))
        self.assertFalse(rooms.is_room(great[:-1] + ([199, 199],)))
        self.assertFalse(rooms.is_room(great[:-1] + ((199, None),)))


class OrderOfChecks(unittest.TestCase):
    def refused(self, error, function, *told):
        with self.assertRaises(error):
            function(*told)

    def test_cannot_stands_behind_the_others(self):
        from tatamirooms.kinds import joined_with
        from tatamirooms.rooms import square_less, square_more
        lone = ((0, 0),)
        self.refused(Unfit, square_less, lone, (0, True))
        self.refused(NoSquare, square_less, lone, (0, 1))
        self.refused(CanNot, square_less, lone, (0, 0))
        self.refused(Unfit, square_more, lone, (0, -1))
        self.refused(CanNot, square_more, lone, [0, 0])
        self.refused(Unfit, joined_with, lone, (5, 5), 9)
        self.refused(NoSquare, joined_with, lone, (5, 5), 1)
        self.refused(CanNot, joined_with, lone, (0, 0), 1)

    def test_too_great_stands_ahead_of_too_many(self):
        from tatamirooms.floors import all_floors
        from tatamirooms.rims import borders
        cross = tuple(sorted({(0, y) for y in range(0, 16, 2)} | {(x, 0) for x in range(0, 16, 2)}))
        for function in (all_floors, borders):
            self.refused(Unfit, function, cross[::-1])
            self.refused(TooMany, function, cross)


if __name__ == "__main__":
    unittest.main()
