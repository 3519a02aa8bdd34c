"""The names, files and arguments of the interface, and the errors [27]."""

import importlib
import inspect
import unittest

from tatamirooms import errors

INTERFACE = {
    "signs": {"words": "text", "text_of": "words", "number_of": "word", "word_of": "number"},
    "rooms": {
        "is_room": "thing", "is_square": "room thing", "beside": "room square", "around": "room square",
        "rim": "room", "inner": "room", "points": "room", "about": "room point", "sizes": "room", "pieces": "room",
        "pillars": "room", "box_of": "room", "boxed": "high wide", "square_more": "room square",
        "square_less": "room square"},
    "kinds": {
        "is_kind": "thing", "is_laid": "room thing", "is_spot": "room thing", "kinds_at": "room square",
        "joined_with": "room square kind", "fits_east": "kind other", "fits_south": "kind other",
        "point_fits": "kinds", "spots": "room", "spots_at": "room square", "fits_at": "room laid spot",
        "fitting": "room spot"},
    "floors": {
        "is_floor": "room thing", "all_mats": "room", "mats": "room floor", "by_mats": "room lot",
        "kind_of": "room floor square", "mat_of": "room floor square", "how_many_half": "room floor",
        "flaws": "room laid", "first_flaw": "room laid", "courses": "room number", "some_floor": "room",
        "all_floors": "room"},
    "mirrored": {
        "moved": "room number", "square_moved": "room square number", "floor_moved": "room floor number",
        "move_back": "number", "moves_put": "number many", "moves_of": "room", "seen_alike": "room other",
        "least_seen": "room", "floors_alike": "room floor other"},
    "rims": {
        "border": "room floor", "inside": "room border", "is_border": "room thing", "border_lets": "room border",
        "why_no_border": "room border", "rim_mats": "room floor", "inner_mats": "room floor", "borders": "room"},
    "steps": {
        "spots_against": "room lets square kind", "steps": "room lets", "is_steps": "room lets thing",
        "left_by": "room lets steps", "left": "room lets", "falls": "room lets", "next_sure": "room lets",
        "all_sure": "room lets"},
    "unlike": {
        "unlike": "room floor other", "far_apart": "room floor other", "rim_unlike": "room floor other",
        "firsts": "room floor other corner", "ways_out": "room floor other square",
        "diagonal": "room floor other square", "is_diagonal": "room floor other thing", "nearest": "room floor"},
    "halves": {
        "halves": "room lets", "fewest_half": "room lets", "most_half": "room lets", "with_half": "room lets number",
        "is_with_half": "room lets number thing", "nearest_half": "room lets number", "can_be_half": "room lets lot",
        "never_half": "room lets"},
    "squares": {
        "square_count": "many half", "square_all": "many", "square_halves": "many", "square_half_sum": "many",
        "square_least": "number", "square_floor": "many half number", "square_number": "many floor",
        "square_next": "many floor", "square_by_row": "many half kinds"},
    "corridors": {
        "corridor_count": "high wide", "corridor_rest": "high wide number", "corridor_rule": "high",
        "corridor_halves": "high wide", "corridor_fewest": "high wide", "corridor_most": "high wide",
        "corridor_ends": "high wide kinds other", "corridor_beginnings": "high wide"},
    "columns": {
        "column": "room x", "rows_at": "room lets x", "fit_behind": "room x ahead row", "reaches": "room lets",
        "is_reaches": "room lets thing", "is_shut": "room lets", "how_far": "room lets", "rows_left": "room lets x"},
    "counts": {
        "how_many": "room", "how_many_with": "room lets", "by_half": "room lets", "kinds_many": "room lets square",
        "with_row": "room lets x row"},
    "told": {
        "can_finish": "room lets", "finished": "room lets", "least_finished": "room lets",
        "greatest_finished": "room lets", "is_finished": "room lets thing", "can_be": "room lets", "sure": "room lets",
        "sure_mats": "room lets", "is_sure": "room lets square kind", "why_not": "room lets",
        "is_why_not": "room lets thing"},
    "drawn": {
        "drawn": "room lets number", "lot_of": "room lets floor", "drawn_half": "room half number",
        "lot_half": "room floor", "behind": "room lets floor", "next_kept": "room lets floor",
        "evenly": "room lets many"},
    "shares": {
        "share": "room square kind", "share_with": "room lets square kind", "mat_share": "room mat",
        "half_mean": "room", "mat_mean": "room", "likeliest": "room kind", "alike_share": "room square"},
    "pieces": {
        "piece_counts": "room", "many_by_pieces": "room", "floor_pieces": "room floor",
        "floor_of_pieces": "room floors", "parting": "room", "lines": "room", "clear_lines": "room floor",
        "many_clear": "room line", "clear_share": "room line", "clear_mean": "room"},
    "clues": {
        "are_clues": "room thing", "clued_floor": "room lets", "two_floors": "room lets",
        "are_two_floors": "room lets thing", "needless": "room lets", "thinned": "room lets",
        "why_needed": "room lets square", "is_why_needed": "room lets square thing", "all_told": "room floor",
        "rim_told": "room floor", "fewest_clues": "room floor", "is_fewest_clues": "room floor thing",
        "least_many": "room", "hint": "room lets"},
    "texts": {
        "is_sheet": "thing", "sheet_text": "sheet", "read_sheet": "text", "room_text": "room", "read_room": "text",
        "picture": "room floor", "read_picture": "text"},
    "numbered": {
        "floor_at": "room number", "floor_number": "room floor", "many_begin": "room kinds", "least_with": "room kinds",
        "greatest_with": "room kinds", "first_floor": "room", "last_floor": "room", "next_floor": "room floor",
        "floor_ahead": "room floor", "floors_from": "room floor many", "many_between": "room floor other",
        "told_by": "room floor"},
    "joined": {
        "side_by_side": "room other down", "seam": "room other down", "seam_points": "room other down",
        "is_west_half": "room other down thing", "is_east_half": "room other down thing",
        "parted": "room other down floor", "seam_fits": "room other down laid other_laid",
        "put_together": "room other down laid other_laid", "west_words": "room other down",
        "east_words": "room other down", "many_joined": "room other down", "many_crossed": "room other down many"},
    "judge": {
        "is_demand": "thing", "is_so": "demand", "paper_against": "demand", "is_paper_against": "demand thing",
        "reason_for": "demand", "is_reason_for": "demand thing", "first_fallen": "demands"},
}
METHODS = {
    "Desk": {"__init__": "self room", "__eq__": "self other", "say": "self text", "room": "self", "told": "self",
             "sure": "self", "undo": "self", "redo": "self", "twin": "self"},
}

ERRORS = {
    "NoPoint": (LookupError, ("point",)), "NoSquare": (LookupError, ("square",)), "NothingDone": (LookupError, ()),
    "BadText": (ValueError, ("line",)), "Broken": (ValueError, ("number",)), "CanNot": (ValueError, ()),
    "TooMany": (ValueError, ()), "Unfit": (ValueError, ()),
}


class Interface(unittest.TestCase):
    def test_each_function_stands_in_its_file_with_its_arguments(self):
        for module, functions in INTERFACE.items():
            own = importlib.import_module("tatamirooms." + module)
            for name, arguments in functions.items():
                with self.subTest(module=module, name=name):
                    function = getattr(own, name)
                    self.assertEqual(function.__module__, "tatamirooms." + module)
                    self.assertEqual(list(inspect.signature(function).parameters), arguments.split())


    def test_each_method_is_defined_in_its_class(self):
        for name, methods in METHODS.items():
            made = getattr(importlib.import_module("tatamirooms.desk"), name)
            self.assertEqual(made.__module__, "tatamirooms.desk")
            self.assertEqual(made.__bases__, (object,))
            for method, arguments in methods.items():
                with self.subTest(name=name, method=method):
                    self.assertIn(method, vars(made))
                    self.assertEqual(list(inspect.signature(vars(made)[method]).parameters), arguments.split())


class Errors(unittest.TestCase):
    def test_each_error_has_its_base_alone(self):
        for name, (base, _) in ERRORS.items():
            with self.subTest(name=name):
                self.assertEqual(getattr(errors, name).__bases__, (base,))
                self.assertEqual(getattr(errors, name).__module__, "tatamirooms.errors")

    def test_each_error_keeps_its_values(self):
        for name, (_, values) in ERRORS.items():
            with self.subTest(name=name):
                made = getattr(errors, name)
                told = [(7, 8)] * len(values)
                for error in (made(*told), made(**dict(zip(values, told)))):
                    self.assertEqual(vars(error), dict(zip(values, told)))

    def test_errors_take_no_other_values(self):
        for name, (_, values) in ERRORS.items():
            with self.subTest(name=name), self.assertRaises(TypeError):
                getattr(errors, name)(*[0] * (len(values) + 1))

    def test_errors_are_caught_by_their_base(self):
        for name, (base, values) in ERRORS.items():
            with self.subTest(name=name), self.assertRaises(base):
                raise getattr(errors, name)(*[0] * len(values))


if __name__ == "__main__":
    unittest.main()
