"""Values that are fit, and values that are not, for each argument of the interface, and things of all kinds."""

from tests.naive import boxed

ROOM = boxed(3, 3)
FLOOR = (1, 2, 4, 3, 0, 1, 2, 4, 3)
OTHER = (0, 0, 1, 2, 4, 3, 0, 2, 4)
LETS = (((0, 0), (1,)), ((2, 0), (0, 2)))
STEPS = (((0, 0), 1, ((0, 0), (1, 0))),)
SHUT = (((0, 0), (1,)), ((0, 1), (0,)), ((0, 2), (0,)), ((1, 0), (1,)))
REACHES = (((1, 0, 0),), (), ())
CLUES = (((0, 0), (1,)), ((1, 1), (0,)))
BOTH = ((1, 0, 0, 3, 2, 4, 2, 4, 0), (1, 0, 1, 3, 1, 3, 0, 3, 0))
BAR = ((4, 1), (4, 2), (4, 3))
ACROSS = OTHER[:6] + (1,) + OTHER[7:]
FOURS = [((0, 0), (0, 1), (1, 0), (1, 1)), ((0, 1), (0, 2), (1, 1), (1, 2)), ((1, 1), (1, 2), (2, 1), (2, 2))]
DEMANDS = (
    ("floor", ROOM, FLOOR), ("rest", ROOM, LETS), ("sure", ROOM, CLUES, (2, 2), 3), ("many", ROOM, 22),
    ("clues", ROOM, CLUES), ("many", ROOM, 0), ("clues", ROOM, ()), ("many", ROOM, 10 ** 40), ("rest", ROOM, ()))
SHEET = (((0, 0), (0, 1), (2, 1)), (((0, 1), ()), ((2, 1), (0, 3))))

# A fit value for each argument, by its name; some functions need another one.
FIT = {
    "text": "room 1 # a\n2", "words": [("room", 0), ("2", 1)], "word": "12", "thing": None, "room": ROOM,
    "square": (1, 1), "point": (1, 1), "high": 2, "wide": 3, "laid": OTHER[:8] + (1,), "spot": ((0, 0), (1, 0)),
    "kind": 1, "other": 3, "kinds": (2, 4, 0, 0), "floor": FLOOR, "number": 2, "many": 5,
    "lot": (((0, 0),), ((0, 1),)), "lets": LETS, "border": (1, 2, 4, 3, 1, 2, 4, 3), "steps": STEPS,
    "corner": (1, -1), "half": 1, "x": 1, "ahead": (1, 2, 4), "row": (3, 0, 1),
    "mat": ((0, 0), (1, 0)), "line": (0, 1), "floors": (FLOOR,), "sheet": SHEET,
    "down": -1, "other_laid": (0, 2, 4), "demand": DEMANDS[2], "demands": DEMANDS[:5],
}
FIT_IN = {
    "seen_alike": {"other": ((0, 0), (0, 1), (1, 1))}, "floors_alike": {"other": OTHER},
    "square_more": {"square": (3, 1)}, "left_by": {"lets": (((1, 0), (0,)),)},
    "why_no_border": {"border": (0,) * 8}, "is_steps": {"thing": STEPS, "lets": (((1, 0), (0,)),)},
    "by_mats": {"lot": (((0, 0), (1, 0)), ((0, 1), (0, 2)), ((1, 1),), ((1, 2), (2, 2)), ((2, 0), (2, 1)))},
    "is_room": {"thing": ROOM}, "is_square": {"thing": (2, 2)}, "is_kind": {"thing": 4},
    "is_laid": {"thing": OTHER}, "is_spot": {"thing": ((0, 0), (0, 1))}, "is_floor": {"thing": FLOOR},
    "is_border": {"thing": (1, 2, 4, 3, 1, 2, 4, 3)}, "next_sure": {"lets": (((0, 0), (1,)),)},
    "unlike": {"other": OTHER}, "far_apart": {"other": OTHER}, "rim_unlike": {"other": OTHER},
    "firsts": {"other": OTHER}, "ways_out": {"other": OTHER}, "diagonal": {"other": OTHER},
    "is_diagonal": {"other": OTHER, "thing": ((1, 1), (-1, -1))},
    "with_half": {"number": 1}, "is_with_half": {"number": 1, "thing": FLOOR},
    "can_be_half": {"lot": ((1, 1),)}, "square_floor": {"many": 3}, "square_number": {"many": 3},
    "square_next": {"many": 3, "floor": OTHER}, "square_by_row": {"many": 2, "half": 2, "kinds": (0, 0)},
    "corridor_ends": {"kinds": (0, 1), "other": (0, 3)},
    "is_reaches": {"lets": SHUT, "thing": REACHES}, "is_why_not": {"lets": SHUT, "thing": REACHES},
    "why_not": {"lets": SHUT}, "is_finished": {"thing": FLOOR}, "evenly": {"many": 3},
    "are_clues": {"thing": CLUES}, "clued_floor": {"lets": CLUES}, "are_two_floors": {"thing": BOTH},
    "needless": {"lets": CLUES}, "thinned": {"lets": CLUES}, "why_needed": {"lets": CLUES}, "hint": {"lets": CLUES},
    "is_why_needed": {"lets": CLUES, "thing": BOTH[0]}, "is_sheet": {"thing": SHEET},
    "is_fewest_clues": {"thing": CLUES},
    "read_sheet": {"text": "square 0 0 # a\n\nlet 0 0 1 2\n"}, "read_room": {"text": "square 3 4\nlet 3 4"},
    "read_picture": {"text": ".o\n><\n"},
    "many_begin": {"kinds": (1, 2)}, "least_with": {"kinds": (1, 2)}, "greatest_with": {"kinds": (1, 2)},
    "floor_ahead": {"floor": FLOOR}, "next_floor": {"floor": FLOOR}, "many_between": {"other": OTHER},
    "seam_fits": {"laid": FLOOR}, "put_together": {"laid": FLOOR}, "many_crossed": {"many": 1},
    "is_west_half": {"thing": ACROSS}, "is_east_half": {"thing": (3, 0, 0)},
    "parted": {"floor": ACROSS + (3, 0, 0)}, "is_demand": {"thing": DEMANDS[0]},
    "is_paper_against": {"demand": ("floor", ROOM, (0,) * 9), "thing": FOURS[0]},
    "is_reason_for": {"demand": ("rest", ROOM, LETS), "thing": BOTH[0]},
    "with_row": {"row": (3, 0, 1)}, "drawn": {"number": 0}, "next_kept": {"lets": (), "floor": OTHER},
}

NO_NUMBERS = [None, True, False, "1", "", 1.0, (1,), [0], {}, object(), b"1"]
NO_PAIRS = NO_NUMBERS + [7, (), (0,), (0, 0, 0), (0, True), (False, 0), ("0", "0"), "00", (0, None), ((0, 0),), {0, 1},
                         {0: 0, 1: 1}, (0.0, 0), b"00"]
NO_ROOMS = NO_NUMBERS + [
    7, (), [], (0, 0), ((0, 0), (0, 0)), ((1, 0), (0, 0)), ((0, 1), (0, 0)), ((0, 0), (-1, 0)), ((-1, 0),), ((0, -1),),
    ((0, True),), ((0, 0), (0, True)), ((0, 0, 0),), ((0,),), ((0, "0"),), (None,), ((0, 0), None), "ab", ("00",),
    {(0, 0)}, {(0, 0): 1}, (((0, 0), (0, 1)),), ((0, 0.0),)]
NO_KINDS = NO_NUMBERS + [-1, 5, 10 ** 30]


def no_rows(many):
    """What is no tuple of so many KINDS."""
    good = [0] * many
    return NO_NUMBERS + [7, good + [0], good[1:], good[1:] + [5], good[1:] + [-1], good[1:] + [True],
                         good[1:] + [None], [False] * many, "0" * many, b"0" * many, {0: 1}]


NO_FLOORS = no_rows(9) + [(0,) * 9, OTHER[:8] + (1,), (3,) + OTHER[1:], FLOOR[:8] + (0,)]
NO_LETS = NO_NUMBERS + [
    7, (None,), ((0, 0),), (((0, 0),),), (((0, 0), 1),), (((0, 0), (1,), 0),), (((0, 0), (5,)),), (((0, 0), (-1,)),),
    (((0, 0), (2, 1)),), (((0, 0), (1, 1)),), (((0, 0), (True,)),), (((3, 0), (0,)),), (((0, -1), (0,)),),
    (((0, 0), (0,)), ((0, 0), (1,))), (((0, 1), (0,)), ((0, 0), (0,))), (((0, 0), (0,)), ((0, 0), (0,))), "ab",
    ((("0", 0), (0,)),), (((0, True), (0,)),), {((0, 0), (0,))}, (((0, 0), "1"),), (((0, 0), None),)]
NO_LOTS = NO_NUMBERS + [
    7, (None,), ((0, 0),), (((0, 0), (1, 1)),), (((1, 0), (0, 0)),), (((0, 0), (0, 0)),), (((0, 0), (0, 1), (0, 2)),),
    (((3, 0),),), (((2, 0), (3, 0)),), (((0, 1),), ((0, 0),)), (((0, 0),), ((0, 0),)), ((),), "ab", (((0, True),),)]
NO_SPOTS = NO_NUMBERS + [
    7, (), (None,), (0, 0), ((0, 0), (1, 1)), ((1, 0), (0, 0)), ((0, 0), (0, 0)), ((0, 0), (0, 2)), ((3, 0),),
    ((2, 0), (3, 0)), ((0, 0), (0, 1), (1, 0)), ((0, 1), (0, 0), (1, 0), (1, 1)), "ab", ((0, True),), ((0, -1),),
    ((2, 2), (2, 3), (3, 2), (3, 3)), ((0, 0), (0, 1), (1, 0), (1, 1), (1, 2)), {(0, 0)}]
NO_CORNERS = NO_PAIRS + [(0, 0), (1, 0), (0, -1), (1, 2), (-2, 1), (1, True), (True, True), (1, 1, 1), (1, -1.0)]
NO_SQUARES = NO_NUMBERS + [
    7, (0, 0), (None,), ((0, 0), 7), ((3, 0),), ((0, -1),), ((1, 0), (0, 0)), ((0, 1), (0, 0)), ((0, 0), (0, 0)),
    ((0, True),), ((0, 0, 0),), ((0,),), (("0", 0),), "ab", {(0, 0)}, {(0, 0): 1}, (((0, 0),),), ((0, 0), None)]
NO_STEPS = NO_NUMBERS + [
    7, (None,), ((0, 0),), (((0, 0), 1),), (((0, 0), 2, ((0, 0), (0, 1))),), (((0, 0), 1, ((0, 0),)),),
    STEPS + STEPS, (((0, 0), 1, ((1, 0), (0, 0))),), (((9, 0), 1, ((0, 0),)),), (((0, 0), True, ((0, 0), (1, 0))),),
    (((0, 0), 1, ((0, 0), (1, 0)), 0),), (((0, 0), 7, ((0, 0),)),), "abc"]
NO_WORDS = NO_NUMBERS[:2] + [
    7, [None], ["ab"], [("a", 0, 0)], [("a",)], [("", 0)], [("A", 0)], [("a b", 0)], [("a", -1)], [("a", True)],
    [("a", "0")], [("a", 1), ("b", 0)], [(0, 0)], [("a#", 0)], [("a\n", 0)]]

NO_MATS = NO_NUMBERS + [
    7, (), (0, 0), (None,), ((0, 0), (1, 1)), ((1, 0), (0, 0)), ((0, 0), (0, 0)), ((0, 0), (0, 2)), ((3, 0),), ((0, -1),),
    ((2, 0), (3, 0)), ((0, 0), (0, 1), (0, 2)), ((0, True),), ((0, 0, 0),), "ab", {(0, 0)}, (((0, 0),),)]
NO_LINES = NO_PAIRS + [(0, 0), (0, 3), (1, 0), (1, 3), (2, 1), (-1, 1), (0, -1), (True, 1), (0, 1, 0)]
NO_FLOORS_OF_PIECES = NO_NUMBERS + [
    7, (), FLOOR, (FLOOR, FLOOR), (None,), (FLOOR[:8],), ((0,) * 9,), (OTHER[:8] + (1,),), ("0" * 9,), {FLOOR},
    {FLOOR: 1}]
NO_SHEETS = NO_NUMBERS + [
    7, (), ((), ()), (ROOM,), (ROOM, (), ()), (ROOM, None), (None, ()), (ROOM, (((3, 3), ()),)), (ROOM[::-1], ()),
    (ROOM, (((0, 0), (4, 1)),)), (ROOM, (((0, 1), ()), ((0, 0), ()))), (ROOM, (((0, 0), (True,)),)), "ab", {ROOM: ()}]

NO_ROWS_OF_ANY_LENGTH = [own for own in NO_NUMBERS if own not in ((1,), [0])] + [
    7, (5,), (-1,), (0, 5), (True,), (0, None), ((0,),), ("0",), (0,) * 8 + (7,), (0,) * 20 + (-1,), {0: 1}]
NO_DEMANDS = NO_NUMBERS + [
    7, (), "many", ("many",), ("many", ROOM), ("many", ROOM, 22, 0), ("many", ROOM, -1), ("many", ROOM, True),
    ("many", ROOM, 10 ** 40 + 1), ("many", (), 2), ("many", ROOM[::-1], 2), ("Many", ROOM, 2), ("much", ROOM, 2),
    (("many",), ROOM, 2), (None, ROOM, 2), (0, ROOM, 2), (ROOM, "many", 2), ("floor", ROOM, FLOOR[:8]),
    ("floor", ROOM, FLOOR + (0,)), ("floor", ROOM, FLOOR[:8] + (5,)), ("floor", ROOM, FLOOR[:8] + (True,)),
    ("floor", None, FLOOR), ("rest", ROOM, (((9, 9), ()),)), ("rest", ROOM, CLUES[::-1]), ("rest", ROOM, None),
    ("rest", ROOM), ("sure", ROOM, CLUES, (2, 2)), ("sure", ROOM, CLUES, (2, 2), 5), ("sure", ROOM, CLUES, (2, 2), True),
    ("sure", ROOM, CLUES, (3, 2), 3), ("sure", ROOM, CLUES, (2, True), 3), ("sure", ROOM, CLUES, (2, 2, 2), 3),
    ("sure", ROOM, CLUES, (2, 2), 3, 3), ("sure", ROOM, None, (2, 2), 3), ("clues", ROOM, LETS), ("clues", ROOM, CLUES[::-1]),
    ("clues", ROOM, (((0, 0), ()),)), ("clues", ROOM, (((0, 0), (0, 1)),)), ("clues", ROOM, 0), {"many": 0}]

NOT_FIT = {
    "words": NO_WORDS, "room": NO_ROOMS, "square": NO_PAIRS, "point": NO_PAIRS, "high": NO_NUMBERS + [0, -1],
    "wide": NO_NUMBERS + [0, -1], "laid": no_rows(9), "spot": NO_SPOTS, "kind": NO_KINDS, "other": NO_KINDS,
    "kinds": no_rows(4), "floor": NO_FLOORS, "number": NO_NUMBERS + [-1, 8], "many": NO_NUMBERS + [-1, 8],
    "lot": NO_LOTS, "lets": NO_LETS, "border": no_rows(8), "steps": NO_STEPS,
    "mat": NO_MATS, "line": NO_LINES, "floors": NO_FLOORS_OF_PIECES, "sheet": NO_SHEETS,
    "down": NO_NUMBERS, "other_laid": no_rows(3) + [(0, 0, 2), (1, 0, 0), (2, 4, 4), (4, 0, 0), (0, 4, 0)], "demand": NO_DEMANDS,
    "demands": NO_NUMBERS[:7] + [7, (7,), "ab"] + [DEMANDS[:5] + (own,) for own in NO_DEMANDS],
    "corner": NO_CORNERS, "half": NO_NUMBERS + [-1], "x": NO_NUMBERS, "ahead": no_rows(3), "row": no_rows(3),
}
NOT_FIT_IN = {
    "seen_alike": {"other": NO_ROOMS}, "floors_alike": {"other": NO_FLOORS},
    "courses": {"number": NO_NUMBERS + [-1, 4, 5]}, "square_more": {"square": NO_PAIRS + [(-1, 0), (0, -1)]},
    "corridor_rest": {"number": NO_NUMBERS + [0, -1]}, "corridor_ends": {"kinds": no_rows(2), "other": no_rows(2)},
    "square_by_row": {"many": NO_NUMBERS + [0, -1, 1, 3], "kinds": no_rows(2)},
    "square_least": {"number": NO_NUMBERS + [-1]},
    "square_floor": {"many": NO_NUMBERS + [0, -1], "number": NO_NUMBERS + [-1]},
    "square_number": {"many": NO_NUMBERS + [0, -1, 2, 4, 10 ** 20]},
    "square_next": {"many": NO_NUMBERS + [0, -1, 2, 4, 10 ** 20]},
}
for _name in ("unlike", "far_apart", "rim_unlike", "firsts", "ways_out", "diagonal", "is_diagonal"):
    NOT_FIT_IN[_name] = {"other": NO_FLOORS}
for _name in ("halves", "fewest_half", "most_half", "with_half", "is_with_half", "nearest_half", "can_be_half",
              "never_half"):
    NOT_FIT_IN[_name] = {"number": NO_NUMBERS, "lot": NO_SQUARES}
for _name in ("drawn", "drawn_half", "floor_at"):
    NOT_FIT_IN[_name] = {"half": NO_NUMBERS, "number": NO_NUMBERS}
for _name in ("many_begin", "least_with", "greatest_with"):
    NOT_FIT_IN[_name] = {"kinds": NO_ROWS_OF_ANY_LENGTH}
NOT_FIT_IN["floors_from"] = {"many": NO_NUMBERS + [-1, -200]}
NOT_FIT_IN["many_between"] = {"other": NO_FLOORS}
for _name in ("side_by_side", "seam", "seam_points", "is_west_half", "is_east_half", "parted", "seam_fits", "put_together",
              "west_words", "east_words", "many_joined", "many_crossed"):
    FIT_IN[_name] = {"other": BAR, **FIT_IN.get(_name, {})}
    NOT_FIT_IN[_name] = {
        "other": NO_ROOMS, "many": NO_NUMBERS, "laid": NO_FLOORS[:-3] + [(1,) + OTHER[1:], FLOOR[:7] + (1, 3)],
        "floor": NO_FLOORS + [FLOOR, ACROSS + (0, 0, 0)]}
NOT_FIT_IN["evenly"] = {"many": NO_NUMBERS + [0, -1, 1001, 10 ** 30]}
for _name in ("square_count", "square_all", "square_halves", "square_half_sum"):
    NOT_FIT_IN[_name] = {"many": NO_NUMBERS + [0, -1]}
NOT_ASKED = ("text", "word", "thing")
NOT_ASKED_IN = {"word_of": ("number",)}

# What a thing may be: values of all kinds, and some nested deep.
DEEP = ()
for _ in range(19):
    DEEP = (DEEP,)
THINGS = [
    None, True, False, 0, 1, -1, 4, 5, 10 ** 60, "", "0", "room", (), [], (0,), [0], (True,), (0, 0), [0, 0], (0, True),
    (True, False), ("0", "0"), (None, None), ((0, 0),), ([0, 0],), [(0, 0)], ((0, 0), 1), ((0, 0), "a"), ((0, 0), None),
    ((0, 0), (0, "a")), ((0, 0), ("a", 0)), ((0, 0), (0, 0)), ((0, 0), (0, True)), (((0, 0), (0, 1)),), DEEP, [DEEP],
    (0,) * 9, [0] * 9, (False,) * 9, ("0",) * 9, FLOOR, list(FLOOR), FLOOR[:8] + (None,), (10 ** 50, 0), (-1, -1),
    (((0, 0), 1, ((0, 0), (1, 0))),), (((0, 0), True, ((0, 0), (1, 0))),), [((0, 0), 1, ((0, 0), (1, 0)))],
    (((0, 0), 1, [(0, 0), (1, 0)]),), ((0, 1, 2),), tuple(range(1000)), "a" * 10000, (((0, 0), 2, ((0, 0),)),) * 500,
    (1, 2, 4, 3, 1, 2, 4, 3), [1, 2, 4, 3, 1, 2, 4, 3], (True, 2, 4, 3, 1, 2, 4, 3), ((0, 0), (1, 1)), [(0, 0), (1, 1)],
    ((0, 0), [1, 1]), ([0, 0], (1, 1)), (None, (1, 1)), ((0, 0), (1, True)), ((0, 0), (1, 0)), ((0, False), (1, 1)), ((9, 9), (1, 1)),
    ((0, 0), (1, 1), (1, 1)), (True, 2, 4, 3, 0, 1, 2, 4, 3), (1, 2, 4, 3, False, 1, 2, 4, 3),
    REACHES, list(REACHES), (((1, 0, 0),), (), []), (((True, 0, 0),), (), ()), (([1, 0, 0],), (), ()), ([(1, 0, 0)], (), ()),
    (((1, 0, 0),), ()), ((), (), ()),
    CLUES, list(CLUES), CLUES[::-1], CLUES[:1], CLUES + (((2, 2), (3,)),), CLUES + (((2, 2), (0,)),),
    CLUES + (((2, 2), [3]),), (((0, 0), (True,)), ((1, 1), (0,))), (((0, 0), (1,)), [(1, 1), (0,)]),
    (((0, 0), (1,)), ((1, 1), (False,))), (((0, 0), (0, 1)), ((1, 1), (0,))), (((0, 0), (1,)), ((1, 1), ())),
    BOTH, list(BOTH), BOTH[::-1], BOTH[:1], BOTH + BOTH[:1], (BOTH[0], BOTH[0]), (BOTH[0], list(BOTH[1])), BOTH[0],
    list(BOTH[0]), (True,) + BOTH[0][1:], (FLOOR, OTHER), (OTHER, FLOOR), ((True,) + BOTH[0][1:], BOTH[1]),
    SHEET, list(SHEET), (list(SHEET[0]), SHEET[1]), (SHEET[0], list(SHEET[1])), SHEET[:1], SHEET + ((),), (SHEET[0], ()),
    (SHEET[0], (((0, 2), ()),)), (SHEET[0], (((2, 1), (3, 0)),)), (SHEET[0], (((2, 1), (0, 3)), ((0, 1), ()))),
    (SHEET[0][::-1], ()), ((), ()), (SHEET[0], (((0, 0), (False,)),)),
    *DEMANDS, *[list(own) for own in DEMANDS], *[own for own in NO_DEMANDS if isinstance(own, tuple)],
    ("floor", ROOM, list(FLOOR)), ("floor", list(ROOM), FLOOR), ("clues", ROOM, list(CLUES)), ("clues", ROOM, CLUES[:1]),
    ("sure", ROOM, CLUES, [2, 2], 3), ("floor", ROOM, (0,) * 9), ("many", ROOM, False), ("many", ROOM, [0]),
    *FOURS, ((0, 0), (1, 0), (0, 1), (1, 1)),
    [(0, 0), (0, 1), (1, 0), (1, 1)], ((0, False), (0, 1), (1, 0), (1, 1)),
    ACROSS, list(ACROSS), ACROSS[:8], ACROSS + (0,), OTHER[:6] + (True,) + OTHER[7:], OTHER[:6] + (1, 1, 1), OTHER,
    OTHER[:2] + (3,) + OTHER[3:],
    (3, 0, 0), [3, 0, 0], (3, 0, False), (3, 0), (3, 0, 0, 0), (3, 3, 0), (3, 3, 3), (0, 0, 0), (0, 2, 4), (2, 4, 3), (1, 0, 0),
    (4, 0, 0), (0, 0, 2), (2, 2, 4), (5, 0, 0)]

GOOD_THINGS = {
    "is_room": [((0, 0),), ((0, 0), (1, 1)), ((0, 0), (1, 0)), *FOURS], "is_square": [(0, 0)], "is_kind": [0, 1, 4],
    "is_laid": [(0,) * 9, FLOOR, BOTH[0], ACROSS, OTHER, OTHER[:6] + (1, 1, 1), OTHER[:2] + (3,) + OTHER[3:]],
    "is_spot": [((0, 0),), ((0, 0), (1, 0)), *FOURS], "is_floor": [FLOOR, BOTH[0], OTHER],
    "is_border": [(1, 2, 4, 3, 1, 2, 4, 3)], "is_steps": [(), STEPS], "is_diagonal": [((0, 0), (1, 1))],
    "is_with_half": [FLOOR], "is_reaches": [REACHES], "is_why_not": [REACHES], "is_finished": [FLOOR, BOTH[0]],
    "are_clues": [CLUES, CLUES + (((2, 2), (3,)),)], "are_two_floors": [BOTH], "is_why_needed": [BOTH[0]],
    "is_west_half": [FLOOR, BOTH[0], ACROSS, OTHER], "is_east_half": [(3, 0, 0), (0, 0, 0), (0, 2, 4), (2, 4, 3), (3, 3, 0), (3, 3, 3)],
    "is_demand": [*DEMANDS, ("clues", ROOM, CLUES[:1]), ("floor", ROOM, (0,) * 9)], "is_reason_for": [BOTH[0], FLOOR],
    "is_paper_against": FOURS,
    "is_fewest_clues": [CLUES], "is_sheet": [SHEET, (SHEET[0], ())]}
