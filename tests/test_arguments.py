"""The general rules [2] and [3]: what may be handed in, how, and what is refused, in which order."""

import copy
import importlib
import unittest

from tatamirooms.errors import CanNot, NoPoint, NoSquare, TooMany, Unfit
from tests.naive import boxed, listed
from tests.test_interface import INTERFACE
from tests.values import (
    FIT, FIT_IN, GOOD_THINGS, NOT_ASKED, NOT_ASKED_IN, NOT_FIT, NOT_FIT_IN, ROOM, THINGS)


def functions():
    """The triples (name, function, names of its arguments) of the interface."""
    for module, told in INTERFACE.items():
        own = importlib.import_module("tatamirooms." + module)
        for name, arguments in told.items():
            yield name, getattr(own, name), arguments.split()


def fit_values(name, arguments):
    """The fit values for the arguments of the function called name."""
    return {**{own: FIT[own] for own in arguments}, **FIT_IN.get(name, {})}


class Arguments(unittest.TestCase):
    def test_by_position_and_by_name_with_lists_for_tuples(self):
        for name, function, arguments in functions():
            with self.subTest(name=name):
                values = fit_values(name, arguments)
                given = function(*[values[own] for own in arguments])
                self.assertEqual(function(**values), given)
                swapped = {own: value if own == "thing" else listed(value) for own, value in values.items()}
                again = function(**swapped)
                self.assertEqual(again, given)
                self.assertEqual(repr(again), repr(given))

    def test_nothing_that_is_handed_in_is_changed(self):
        for name, function, arguments in functions():
            with self.subTest(name=name):
                values = {own: listed(value) for own, value in fit_values(name, arguments).items()}
                kept = copy.deepcopy(values)
                function(**values)
                self.assertEqual(repr(values), repr(kept))

    def test_returned_lists_are_new(self):
        for name, function, arguments in functions():
            values = fit_values(name, arguments)
            given = function(**values)
            if isinstance(given, list):
                with self.subTest(name=name):
                    kept = list(given)
                    given.append("mine")
                    self.assertEqual(function(**values), kept)

    def test_what_is_not_as_told_is_unfit(self):
        for name, function, arguments in functions():
            values = fit_values(name, arguments)
            for own in arguments:
                if own in NOT_ASKED or own in NOT_ASKED_IN.get(name, ()):
                    continue
                for wrong in NOT_FIT_IN.get(name, {}).get(own, NOT_FIT[own]):
                    with self.subTest(name=name, argument=own, wrong=wrong), self.assertRaises(Unfit):
                        function(**{**values, own: wrong})

    def test_unfit_stands_ahead_of_no_square_and_no_point(self):
        for name, function, arguments in functions():
            absent = [own for own in arguments if own in ("square", "point") and name != "square_more"]
            if not absent:
                continue
            values = {**fit_values(name, arguments), absent[0]: (7, 7)}
            error = NoPoint if absent == ["point"] else NoSquare
            for told in ((7, 7), [7, 7], (-1, 0), (0, 3)):
                with self.subTest(name=name, told=told):
                    with self.assertRaises(error) as raised:
                        function(**{**values, absent[0]: told})
                    self.assertEqual(vars(raised.exception), {absent[0]: tuple(told)})
                    self.assertIs(tuple, getattr(raised.exception, absent[0]).__class__)
            for own in arguments:
                if own == absent[0] or own in NOT_ASKED:
                    continue
                for wrong in NOT_FIT_IN.get(name, {}).get(own, NOT_FIT[own]):
                    with self.subTest(name=name, argument=own, wrong=wrong), self.assertRaises(Unfit):
                        function(**{**values, own: wrong})

    def test_thing_may_be_anything(self):
        for name, function, arguments in functions():
            if "thing" not in arguments:
                continue
            values = fit_values(name, arguments)
            # Told by repr: Python itself takes True for 1.
            good = [repr(thing) for thing in GOOD_THINGS[name]]
            self.assertIs(function(**values), True)
            for thing in THINGS:
                with self.subTest(name=name, thing=thing):
                    self.assertIs(function(**{**values, "thing": thing}), repr(thing) in good)

    def test_errors_for_the_others_are_raised_whatever_thing_is(self):
        for name, function, arguments in functions():
            if "thing" not in arguments:
                continue
            for own in arguments:
                for thing in THINGS if own != "thing" else []:
                    with self.subTest(name=name, thing=thing), self.assertRaises(Unfit):
                        function(**{**fit_values(name, arguments), own: (((9, 9), (7,)),), "thing": thing})

    def test_things_that_are_true_only_for_numbers_and_tuples(self):
        rooms = importlib.import_module("tatamirooms.rooms")
        kinds = importlib.import_module("tatamirooms.kinds")
        self.assertEqual([rooms.is_room(own) for own in (((0, 0), (0, 10 ** 40)), ((True, 0),), ([0, 0],), [(0, 0)])],
                         [True, False, False, False])
        self.assertEqual([rooms.is_square(ROOM, own) for own in ((0, 1), (0, True), [0, 1], (0, 3), (0, 1, 2), "01")],
                         [True, False, False, False, False, False])
        self.assertEqual([kinds.is_kind(own) for own in (0, 4, 5, -1, True, False, None, "1", (1,), 10 ** 60)],
                         [True, True] + [False] * 8)
        self.assertEqual([kinds.is_laid(((0, 0), (0, 1)), own) for own in ((1, 1), [1, 1], (True, 1), (1,), (1, 5))],
                         [True, False, False, False, False])

    def test_a_great_thing(self):
        rooms = importlib.import_module("tatamirooms.rooms")
        great = boxed(200, 200)
        self.assertTrue(rooms.is_room(great))
        self.assertFalse(rooms.is_room(great + ((0, 0),)))
        self.assertFalse(rooms.is_room(great[:-1] + ([199, 199],)))
        self.assertFalse(rooms.is_room(great[:-1] + ((199, None),)))


class OrderOfChecks(unittest.TestCase):
    def refused(self, error, function, *told):
        with self.assertRaises(error):
            function(*told)

    def test_cannot_stands_behind_the_others(self):
        from tatamirooms.kinds import joined_with
        from tatamirooms.rooms import square_less, square_more
        lone = ((0, 0),)
        self.refused(Unfit, square_less, lone, (0, True))
        self.refused(NoSquare, square_less, lone, (0, 1))
        self.refused(CanNot, square_less, lone, (0, 0))
        self.refused(Unfit, square_more, lone, (0, -1))
        self.refused(CanNot, square_more, lone, [0, 0])
        self.refused(Unfit, joined_with, lone, (5, 5), 9)
        self.refused(NoSquare, joined_with, lone, (5, 5), 1)
        self.refused(CanNot, joined_with, lone, (0, 0), 1)

    def test_too_great_stands_ahead_of_too_many(self):
        from tatamirooms.floors import all_floors
        from tatamirooms.rims import borders
        cross = tuple(sorted({(0, y) for y in range(0, 16, 2)} | {(x, 0) for x in range(0, 16, 2)}))
        for function in (all_floors, borders):
            self.refused(Unfit, function, cross[::-1])
            self.refused(TooMany, function, cross)


if __name__ == "__main__":
    unittest.main()
