"""One judge [25]."""

import unittest

from tatamirooms.columns import reaches
from tatamirooms.counts import how_many
from tatamirooms.errors import TooMany, Unfit
from tatamirooms.floors import flaws, mats
from tatamirooms.judge import (
    first_fallen, is_demand, is_paper_against, is_reason_for, is_so, paper_against, reason_for)
from tests.naive import TRIAL_ROOMS, boxed, floors_of, is_floor, listed, low_room, seeded, trials

FOUR = boxed(2, 2)
HIGH = boxed(8, 1)
LETS = (((0, 0), (2,)), ((1, 1), (0,)))
LESS = (((0, 0), (0,)), ((1, 1), (0,)))
DOWN = (((0, 0), (2,)),)
# Standing and fallen, each of the five.
STANDING = (("floor", FOUR, (2, 4, 2, 4)), ("rest", FOUR, LETS), ("sure", FOUR, DOWN, (0, 1), 4), ("many", FOUR, 6),
            ("clues", FOUR, LETS))
FALLEN = (("floor", FOUR, (0, 0, 0, 0)), ("rest", FOUR, LESS), ("sure", FOUR, DOWN, (1, 0), 0), ("many", FOUR, 5),
          ("clues", FOUR, DOWN), ("clues", FOUR, LESS))


def struck(lets, square, kind):
    table = dict(lets)
    table[square] = tuple(own for own in table.get(square, range(5)) if own != kind)
    return tuple(sorted(table.items()))


class Judged(unittest.TestCase):
    def judged(self, demand, stands, good, bad, others):
        """Good are all PAPERS, or all REASONS if the DEMAND stands; bad and others are none, but what is good."""
        self.assertIs(is_demand(demand), True)
        self.assertIs(is_demand(listed(demand)), False)
        for told in (demand, listed(demand)):
            self.assertIs(is_so(told), stands)
            paper, reason = paper_against(told), reason_for(told)
            self.assertIs(paper is None, stands)
            self.assertIs(reason is None, not stands)
            self.assertIn(reason if stands else paper, good)
        # By repr: Python itself takes True for 1.
        known = {repr(own) for own in good}
        for thing in good[:6]:
            self.assertIs(is_paper_against(demand, thing), not stands)
            self.assertIs(is_reason_for(demand, thing), stands)
            for near in nearly(thing):
                self.assertIs(is_paper_against(demand, near), not stands and repr(near) in known)
                self.assertIs(is_reason_for(demand, near), stands and repr(near) in known)
        for thing in list(bad) + list(others) + [None, "ab", True]:
            if repr(thing) not in known:
                self.assertIs(is_paper_against(demand, thing), False)
                self.assertIs(is_reason_for(demand, thing), False)

    def test_floors(self):
        chance = seeded(161)
        for room in TRIAL_ROOMS[::3]:
            rows = list(floors_of(room)[:8])
            rows += [tuple(chance.randrange(5) for _ in room) for _ in range(5)] + [(0,) * len(room)]
            for laid in rows:
                stands = is_floor(room, laid)
                good = [mats(room, laid)] if stands else list(flaws(room, laid))
                self.judged(("floor", room, laid), stands, good, [(room[0],), room, (room[0], room[0])], [laid, ()])

    def test_the_rest(self):
        for room, lets, floors in trials(162, 3)[::3]:
            good = floors if floors else [reaches(room, lets)]
            bad = [own for own in floors_of(room) if own not in floors]
            self.judged(("rest", room, lets), bool(floors), good, bad[:6], [reaches(room, ()), (), 0])

    def test_what_is_sure(self):
        chance = seeded(163)
        stood = 0
        for room, lets, floors in trials(164, 5)[::3]:
            for square in chance.sample(room, min(3, len(room))):
                at, kind = room.index(square), chance.randrange(5)
                if floors and chance.random() < 0.5:
                    kind = floors[0][at]
                against = [own for own in floors if own[at] != kind]
                stood += not against
                good = against if against else [reaches(room, struck(lets, square, kind))]
                bad = [own for own in floors_of(room) if own not in against]
                self.judged(("sure", room, lets, square, kind), not against, good, bad[:6], [reaches(room, ()), ()])
        self.assertGreater(stood, 50)

    def test_how_many(self):
        for room in TRIAL_ROOMS[::2]:
            floors = floors_of(room)
            counts = [floor.count(0) for floor in floors]
            for number in (0, len(floors) - 1, len(floors), len(floors) + 1, 10 ** 40):
                stands = len(floors) <= number
                row = tuple(counts.count(half) for half in range(len(room) + 1))
                bad = [len(floors) - 1, len(floors) + 1, row[:-1], row + (0,), list(row), -1, 0, 1, (len(floors),)]
                self.judged(("many", room, number), stands, [row] if stands else [len(floors)], bad, [row, len(floors), ()])

    def test_clues(self):
        chance = seeded(165)
        for room in TRIAL_ROOMS[::2]:
            every = floors_of(room)
            for _ in range(4):
                floor, share = chance.choice(every), chance.random()
                lets = tuple((own, (kind if chance.random() < 0.95 else 4,)) for own, kind in zip(room, floor)
                             if chance.random() < share)
                table = dict(lets)
                floors = [own for own in every if all(table.get(square, (kind,)) == (kind,) for square, kind in zip(room, own))]
                good = floors if len(floors) == 1 else [()] if not floors else [
                    (one, two) for one in floors for two in floors if one < two]
                bad = [(two, one) for one in floors[:4] for two in floors[:4] if one <= two] + [every[0], (every[0], every[-1])]
                self.judged(("clues", room, lets), len(floors) == 1, good, bad, [(), floors, 0])
        for room in (((0, 0),), ((0, 0), (1, 1))):
            self.judged(("clues", room, ()), True, [(0,) * len(room)], [(), ((), ())], [])

    def test_great_rooms(self):
        for room in (boxed(7, 14), low_room(seeded(166), 98)):
            many = how_many(room)
            self.assertIs(is_so(("many", room, many)), True)
            self.assertEqual(paper_against(("many", room, many - 1)), many)
            self.assertEqual(sum(reason_for(("many", room, 10 ** 40))), many)
            floor = reason_for(("rest", room, ()))
            self.assertIs(is_so(("floor", room, floor)), True)
            lets = tuple((square, (kind,)) for square, kind in zip(room, floor))
            self.assertEqual(reason_for(("clues", room, lets)), floor)
            self.assertIs(is_reason_for(("sure", room, lets[1:], room[0], floor[0]),
                                        reaches(room, struck(lets[1:], room[0], floor[0]))),
                          is_so(("sure", room, lets[1:], room[0], floor[0])))


def nearly(thing):
    """Things that are nearly this one."""
    if not isinstance(thing, tuple):
        return [thing + 1, thing - 1, (thing,), [thing], str(thing)] + ([True] if thing == 1 else [])
    found = [list(thing), thing + (0,), thing + ((),), thing[:-1], (thing,), thing + thing]
    if len(thing) > 1:
        found += [thing[::-1], thing[1:] + thing[:1]]
    for at, part in enumerate(thing[:3]):
        if part in (0, 1) and not isinstance(part, tuple):
            found.append(thing[:at] + (bool(part),) + thing[at + 1:])
        if not isinstance(part, tuple):
            found.append(thing[:at] + (part + 1,) + thing[at + 1:])
        else:
            found += [thing[:at] + (list(part),) + thing[at + 1:], thing[:at] + (part + (0,),) + thing[at + 1:],
                      thing[:at] + (part[:-1],) + thing[at + 1:], thing[:at] + (part[::-1],) + thing[at + 1:]]
            if part and part[0] in (0, 1):
                found.append(thing[:at] + ((bool(part[0]),) + part[1:],) + thing[at + 1:])
    return found


class Demands(unittest.TestCase):
    def test_standing_and_fallen(self):
        for demand in STANDING:
            self.assertIs(is_so(demand), True)
            self.assertIsNone(paper_against(demand))
            self.assertIs(is_reason_for(demand, reason_for(demand)), True)
            self.assertIs(is_paper_against(demand, reason_for(demand)), False)
        for demand in FALLEN:
            self.assertIs(is_so(demand), False)
            self.assertIsNone(reason_for(demand))
            self.assertIs(is_paper_against(demand, paper_against(demand)), True)
            self.assertIs(is_reason_for(demand, paper_against(demand)), False)

    def test_sure_of_squares_that_lets_name_or_not(self):
        for demand, wanted in (
                (("sure", FOUR, DOWN, (0, 0), 2), ((), ())), (("sure", FOUR, DOWN, (0, 1), 4), ((), ())),
                (("sure", FOUR, LESS, (0, 0), 3), (((0, 0), (0, 1)), ())),
                (("sure", FOUR, (((0, 0), ()),), (0, 0), 3), ((), ())),
                (("sure", FOUR, (((0, 0), (0, 2)), ((0, 1), (4,))), (0, 0), 2), ((), ()))):
            self.assertEqual(reason_for(demand), wanted)
            self.assertIs(is_reason_for(demand, wanted), True)
            self.assertIsNone(paper_against(demand))
        self.assertIs(is_so(("sure", FOUR, (((0, 0), (0, 2)),), (0, 0), 2)), False)
        self.assertEqual(paper_against(("sure", FOUR, (((0, 0), (0, 2)),), (0, 0), 0))[0], 2)

    def test_papers_and_reasons_that_are_documented(self):
        self.assertIs(is_paper_against(FALLEN[4], ((2, 4, 0, 0), (2, 4, 2, 4))), True)
        self.assertIs(is_paper_against(FALLEN[4], ((2, 4, 2, 4), (2, 4, 0, 0))), False)
        self.assertIs(is_paper_against(FALLEN[4], ()), False)
        self.assertIs(is_paper_against(FALLEN[5], ()), True)
        self.assertIs(is_paper_against(FALLEN[5], []), False)
        self.assertIs(is_paper_against(FALLEN[3], 6), True)
        for thing in (5, 7, True, (6,), "6", None):
            self.assertIs(is_paper_against(FALLEN[3], thing), False)
        lone = ("many", ((0, 0),), 0)
        self.assertEqual([is_paper_against(lone, thing) for thing in (1, True, 0, 2)], [True, False, False, False])
        self.assertEqual([is_reason_for(STANDING[3], thing) for thing in ((2, 0, 4, 0, 0), [2, 0, 4, 0, 0], (2, 0, 4), 6)],
                         [True, False, False, False])
        self.assertEqual(reason_for(("many", ((0, 0),), 1)), (0, 1))
        self.assertIs(is_reason_for(("many", ((0, 0),), 1), (0, True)), False)
        self.assertIs(is_reason_for(("many", ((0, 0),), 1), (False, 1)), False)

    def test_what_is_nearly_a_demand(self):
        for demand in STANDING + FALLEN:
            self.assertIs(is_demand(demand), True)
            for thing in (list(demand), demand[:-1], demand + (0,), demand + demand, (demand[0].upper(),) + demand[1:],
                          demand[1:], (demand[0] + " ",) + demand[1:], (demand,), demand[:1], demand[0], (0,) + demand[1:],
                          (list(demand[0]),) + demand[1:], demand[:1] + (list(FOUR),) + demand[2:],
                          demand[:1] + (FOUR[::-1],) + demand[2:], demand[:1] + ((),) + demand[2:],
                          demand[:2] + (True,) + demand[3:], demand[:2] + (None,) + demand[3:]):
                self.assertIs(is_demand(thing), False, thing)
        for thing in (("floor", FOUR, (1, 1, 3, 3, 0)), ("floor", FOUR, [1, 1, 3, 3]), ("floor", FOUR, (True, 1, 3, 3)),
                      ("floor", FOUR, (5, 1, 3, 3)), ("rest", FOUR, (((1, 2), ()),)), ("rest", FOUR, LETS[::-1]),
                      ("rest", FOUR, list(LETS)), ("sure", FOUR, DOWN, (0, 2), 4), ("sure", FOUR, DOWN, [0, 1], 4),
                      ("sure", FOUR, DOWN, (0, 1), 5), ("sure", FOUR, DOWN, (0, True), 4), ("sure", FOUR, DOWN, (0, 1), True),
                      ("sure", FOUR, DOWN, (0, 1)), ("sure", FOUR, (0, 1), DOWN, 4), ("many", FOUR, -1), ("many", FOUR, True),
                      ("many", FOUR, 10 ** 40 + 1), ("many", FOUR, ()), ("many", FOUR, "6"), ("clues", FOUR, (((0, 0), ()),)),
                      ("clues", FOUR, (((0, 0), (0, 2)),)), ("clues", FOUR, (((0, 0), [2]),)), ("much", FOUR, 6)):
            self.assertIs(is_demand(thing), False, thing)
        self.assertIs(is_demand(("many", HIGH, 10 ** 40)), True)
        self.assertIs(is_demand(("clues", FOUR, ())), True)
        self.assertIs(is_demand(("floor", FOUR, (4, 4, 4, 4))), True)


class Refused(unittest.TestCase):
    ASKED = ((is_so, ()), (paper_against, ()), (reason_for, ()), (is_paper_against, (None,)), (is_reason_for, (None,)))

    def test_no_demands(self):
        for function, more in self.ASKED:
            for demand in (None, (), "many", ("many", FOUR), ("many", FOUR, -1), ("many", HIGH, True), ("rest", HIGH, None)):
                with self.assertRaises(Unfit):
                    function(demand, *more)

    def test_too_many_but_for_floors(self):
        pair = (((0, 0), (2,)),)
        for demand in (("rest", HIGH, pair), ("sure", HIGH, pair, (0, 0), 2), ("many", HIGH, 0), ("clues", HIGH, pair)):
            self.assertIs(is_demand(demand), True)
            for function, more in self.ASKED:
                with self.assertRaises(TooMany):
                    function(demand, *more)
            with self.assertRaises(TooMany):
                is_paper_against(demand, 34)
            with self.assertRaises(TooMany):
                first_fallen((demand,))
        for laid, stands in (((2, 4) * 4, True), ((0,) * 8, True), ((2,) * 8, False)):
            self.assertIs(is_so(("floor", HIGH, laid)), stands)
        self.assertEqual(paper_against(("floor", HIGH, (0,) * 7 + (4,))), ((0, 6), (0, 7)))
        self.assertEqual(len(reason_for(("floor", HIGH, (0,) * 8))), 8)

    def test_the_first_that_is_fallen(self):
        self.assertIsNone(first_fallen(STANDING))
        self.assertIsNone(first_fallen(()))
        self.assertIsNone(first_fallen([]))
        for demand in FALLEN:
            for at in range(len(STANDING) + 1):
                mixed = STANDING[:at] + (demand,) + STANDING[at:]
                self.assertEqual(first_fallen(mixed), at)
                self.assertEqual(first_fallen(listed(mixed)), at)
                self.assertEqual(first_fallen(mixed + FALLEN), at)
                for bad in (None, ("many", FOUR, -1), (), ("floor", FOUR, (0, 0))):
                    with self.assertRaises(Unfit):
                        first_fallen(mixed + (bad,))
                # A great one is come to only if all those ahead stand.
                great = ("many", HIGH, 0)
                self.assertEqual(first_fallen(mixed + (great,)), at)
                with self.assertRaises(TooMany):
                    first_fallen((great,) + mixed)
        for demands in (None, 7, "ab", FALLEN[0], True):
            with self.assertRaises(Unfit):
                first_fallen(demands)

    def test_names(self):
        self.assertIs(is_so(demand=STANDING[0]), True)
        self.assertIs(is_paper_against(demand=listed(FALLEN[3]), thing=6), True)
        self.assertEqual(first_fallen(demands=FALLEN), 0)


if __name__ == "__main__":
    unittest.main()
