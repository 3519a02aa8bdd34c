"""The desk [26]."""

import copy
import unittest

from tatamirooms.counts import how_many
from tatamirooms.desk import Desk
from tatamirooms.errors import BadText, NothingDone, TooMany, Unfit
from tests.naive import TRIAL_ROOMS, boxed, floors_of, kept_by, listed, low_room, seeded

FOUR = boxed(2, 2)
THREE = boxed(3, 3)


class Slow:
    """A desk told slowly: by a trial of all FLOORS, with all states that there were."""

    def __init__(self, room):
        self.room, self.told, self.past, self.later = room, {}, [], []

    def floors(self, told):
        return kept_by(floors_of(self.room), self.room, tuple((own, (kind,)) for own, kind in told.items()))

    def seen(self, square):
        return sorted({floor[self.room.index(square)] for floor in self.floors(self.told)})

    def answer(self, line):
        word, *numbers = line.split(" ")
        numbers = [int(own) for own in numbers]
        floors = self.floors(self.told)
        if word == "many":
            return str(len(floors))
        if word == "halves":
            counts = [floor.count(0) for floor in floors]
            return f"{min(counts)} {max(counts)}"
        if word == "open":
            return str(sum(len(self.seen(square)) > 1 for square in self.room))
        square = tuple(numbers[:2])
        if square not in self.room:
            return "no square"
        if word == "kinds":
            return " ".join(map(str, self.seen(square)))
        if word == "forget":
            if square not in self.told:
                return "not told"
            del self.told[square]
            return "done"
        if numbers[2] > 4:
            return "no kind"
        told = {**self.told, square: numbers[2]}
        if not self.floors(told):
            return "barred"
        self.told = told
        return "done"

    def say(self, text):
        ahead = dict(self.told)
        answers = tuple(self.answer(line) for line in text.split("\n"))
        if "done" in answers:
            self.past.append(ahead)
            self.later = []
        return answers

    def lets(self):
        return tuple(sorted((square, (kind,)) for square, kind in self.told.items()))

    def sure(self):
        return tuple((square, tuple(self.seen(square))) for square in self.room if len(self.seen(square)) == 1)

    def swap(self, taken, given):
        if not taken:
            raise NothingDone()
        given.append(self.told)
        self.told = taken.pop()
        return len(self.told)

    def undo(self):
        return self.swap(self.past, self.later)

    def redo(self):
        return self.swap(self.later, self.past)

    def twin(self):
        return copy.deepcopy(self)


def some_line(chance, room):
    word = chance.choice(("tell", "tell", "tell", "tell", "forget", "forget", "kinds", "many", "halves", "open"))
    x, y = chance.choice(room) if chance.random() < 0.9 else (chance.randrange(9), chance.randrange(9))
    if word == "tell":
        return f"tell {x} {y} {chance.choice((0, 0, 1, 2, 3, 4, 4, 5, 999999))}"
    return f"{word} {x} {y}" if word in ("forget", "kinds") else word


class AsATrialOfAllFloors(unittest.TestCase):
    def same(self, desk, slow):
        self.assertEqual(desk.told(), slow.lets())
        self.assertEqual(desk.room(), slow.room)
        self.assertEqual(desk.sure(), slow.sure())

    def outcome(self, work):
        try:
            return work()
        except NothingDone:
            return "nothing done"

    def test_any_row_of_says_undos_redos_and_twins(self):
        chance = seeded(171)
        for room in TRIAL_ROOMS[::4] + [THREE, boxed(2, 4)]:
            pairs = [(Desk(room), Slow(room))]
            for _ in range(40):
                at = chance.randrange(len(pairs))
                desk, slow = pairs[at]
                what = chance.random()
                if what < 0.6:
                    text = "\n".join(some_line(chance, room) for _ in range(chance.choice((1, 1, 1, 2, 3, 6))))
                    self.assertEqual(desk.say(text), slow.say(text))
                elif what < 0.77:
                    self.assertEqual(self.outcome(desk.undo), self.outcome(slow.undo))
                elif what < 0.92:
                    self.assertEqual(self.outcome(desk.redo), self.outcome(slow.redo))
                elif len(pairs) < 4:
                    pairs.append((desk.twin(), slow.twin()))
                for own, other in pairs:
                    self.assertEqual(own.told(), other.lets())
                for own, _ in pairs:
                    self.assertIs(own == desk, own.told() == desk.told())
                    self.assertIs(own != desk, own.told() != desk.told())
            for desk, slow in pairs:
                self.same(desk, slow)

    def test_what_is_told_is_always_kept_by_some_floor(self):
        chance = seeded(172)
        for room in (THREE, boxed(4, 4), boxed(2, 7), low_room(chance, 40)):
            desk = Desk(room)
            for _ in range(60):
                desk.say(some_line(chance, room))
                self.assertNotEqual(desk.say("many"), ("0",))
            self.assertGreater(len(desk.told()), 0)


class Lines(unittest.TestCase):
    def test_each_answer_of_each_line(self):
        desk = Desk(FOUR)
        for line, answer in (
                ("many", "6"), ("halves", "0 2"), ("open", "4"), ("kinds 0 0", "0 1 2"), ("kinds 1 1", "0 3 4"),
                ("kinds 0 2", "no square"), ("forget 0 0", "not told"), ("forget 2 0", "no square"),
                ("tell 0 0 3", "barred"), ("tell 0 0 5", "no kind"), ("tell 2 2 0", "no square"), ("tell 0 0 0", "done"),
                ("tell 0 0 0", "done"), ("kinds 0 0", "0"), ("many", "2"), ("halves", "2 2"), ("open", "3"),
                ("tell 1 1 0", "barred"), ("tell 0 0 2", "done"), ("kinds 0 0", "2"), ("kinds 1 0", "0 2"),
                ("tell 1 1 0", "done"), ("many", "1"), ("open", "0"), ("halves", "2 2"), ("forget 0 0", "done"),
                ("forget 0 0", "not told"), ("kinds 1 1", "0"), ("many", "2")):
            self.assertEqual(desk.say(line), (answer,), line)
        self.assertEqual(desk.told(), (((1, 1), (0,)),))

    def test_of_several_refusals_the_first_one(self):
        desk = Desk(FOUR)
        desk.say("tell 0 0 0")
        for line, answer in (("tell 2 0 5", "no square"), ("tell 2 0 3", "no square"), ("tell 1 1 5", "no kind"),
                             ("tell 1 1 999999", "no kind"), ("tell 1 1 1", "barred"), ("forget 9 9", "no square"),
                             ("kinds 999999 0", "no square"), ("tell 999999 999999 999999", "no square")):
            self.assertEqual(desk.say(line), (answer,))
        self.assertEqual(desk.told(), (((0, 0), (0,)),))
        self.assertEqual((desk.undo(), desk.told()), (0, ()))

    def test_a_square_is_told_anew(self):
        desk = Desk(THREE)
        self.assertEqual(desk.say("tell 1 1 0\ntell 0 0 1\ntell 0 0 2\nmany\ntell 0 1 0"), ("done", "done", "done", "1", "barred"))
        self.assertEqual(desk.told(), (((0, 0), (2,)), ((1, 1), (0,))))

    def test_lines_that_are_none(self):
        desk = Desk(FOUR)
        desk.say("tell 0 0 2")
        for line in ("", " ", "many ", " many", "Many", "many 1", "manys", "halves 0", "open 0 0", "openn", "tell", "tell 0 0",
                     "tell 0 0 0 0", "tell  0 0 0", "tell 0 0  0", "tell 0 0 0 ", " tell 0 0 0", "tell 00 0 0", "tell 0 00 0",
                     "tell 0 0 00", "tell 0 0 02", "tell 0 0 -1", "tell -1 0 0", "tell -0 0 0", "tell 0 0 1234567",
                     "tell 1000000 0 0", "tell a 0 0", "tell 0,0 0", "tell 0 0 +1", "tell 0 0 1.", "forget", "forget 0",
                     "forget 0 0 0", "forget 0  0", "kinds", "kinds 0", "kinds 0 0 0", "kinds 00 0", "# many", "many # a",
                     "undo", "0 0", "done", "tell 0 0 0;many", "-", "tell 0 0 1_0"):
            for text, at in ((line, 0), ("many\n" + line, 1), (line + "\nmany", 0), ("tell 0 0 0\nforget 0 0\n" + line + "\n?", 2)):
                with self.subTest(text=text):
                    with self.assertRaises(BadText) as raised:
                        desk.say(text)
                    self.assertEqual(raised.exception.line, at)
                    self.assertEqual(desk.told(), (((0, 0), (2,)),))
        for text, at in (("many\n", 1), ("\nmany", 0), ("\n", 0), ("many\n\nmany", 1)):
            with self.assertRaises(BadText) as raised:
                desk.say(text)
            self.assertEqual(raised.exception.line, at)
        # Nothing of all this was done: just the one say is taken back.
        self.assertEqual(desk.undo(), 0)
        with self.assertRaises(NothingDone):
            desk.undo()

    def test_six_figures(self):
        room = ((999999, 0), (999999, 1))
        desk = Desk(room)
        self.assertEqual(desk.say("tell 999999 0 2\nkinds 999999 1\nkinds 100000 0"), ("done", "4", "no square"))

    def test_great_rooms(self):
        for room in (boxed(7, 14), low_room(seeded(173), 98), boxed(1, 60)):
            desk = Desk(room)
            self.assertEqual(desk.say("many"), (str(how_many(room)),))
            x, y = room[40]
            self.assertEqual(desk.say(f"tell {x} {y} 0\nkinds {x} {y}\nforget {x} {y}\nmany"),
                             ("done", "0", "done", str(how_many(room))))


class TakenBack(unittest.TestCase):
    def test_a_say_of_several_lines_is_taken_back_whole(self):
        desk = Desk(THREE)
        desk.say("tell 1 1 0")
        desk.say("tell 0 0 1\nmany\ntell 2 2 9\nforget 1 1\ntell 0 1 2")
        self.assertEqual(desk.told(), (((0, 0), (1,)), ((0, 1), (2,))))
        self.assertEqual((desk.undo(), desk.told()), (1, (((1, 1), (0,)),)))
        self.assertEqual((desk.redo(), desk.told()), (2, (((0, 0), (1,)), ((0, 1), (2,)))))
        self.assertEqual((desk.undo(), desk.undo(), desk.told()), (1, 0, ()))
        for _ in range(2):
            with self.assertRaises(NothingDone):
                desk.undo()
        self.assertEqual((desk.redo(), desk.redo(), len(desk.told())), (1, 2, 2))
        for _ in range(2):
            with self.assertRaises(NothingDone):
                desk.redo()

    def test_done_without_any_change_counts(self):
        desk = Desk(FOUR)
        desk.say("tell 0 0 0")
        desk.say("tell 0 0 0")
        desk.say("forget 0 0\ntell 0 0 0")
        self.assertEqual([desk.undo() for _ in range(3)], [1, 1, 0])
        self.assertEqual([desk.redo() for _ in range(2)], [1, 1])
        # It ends, too, what could be done once more.
        desk.say("tell 0 0 0")
        with self.assertRaises(NothingDone):
            desk.redo()

    def test_what_is_not_done_does_not_count(self):
        desk = Desk(FOUR)
        with self.assertRaises(NothingDone):
            desk.undo()
        desk.say("tell 0 0 0")
        desk.undo()
        for text in ("many\nopen\nhalves\nkinds 0 0", "tell 0 0 3", "tell 9 9 0", "tell 0 0 7", "forget 0 0", "forget 9 9"):
            desk.say(text)
        with self.assertRaises(NothingDone):
            desk.undo()
        self.assertEqual(desk.redo(), 1)
        desk.undo()
        desk.say("many\ntell 1 1 0\nmany")
        with self.assertRaises(NothingDone):
            desk.redo()
        self.assertEqual((desk.told(), desk.undo()), ((((1, 1), (0,)),), 0))

    def test_twins_go_their_own_way(self):
        desk = Desk(FOUR)
        desk.say("tell 0 0 2")
        desk.say("tell 1 1 0")
        desk.undo()
        other = desk.twin()
        self.assertIsInstance(other, Desk)
        self.assertIsNot(other, desk)
        self.assertEqual((other.undo(), other.redo(), other.redo()), (0, 1, 2))
        self.assertEqual(desk.told(), (((0, 0), (2,)),))
        self.assertEqual((desk.redo(), desk.undo(), desk.undo()), (2, 1, 0))
        self.assertEqual(len(other.told()), 2)
        desk.say("tell 0 1 0")
        with self.assertRaises(NothingDone):
            desk.redo()
        self.assertEqual((other.undo(), other.redo()), (1, 2))

    def test_which_are_equal(self):
        desk, other = Desk(FOUR), Desk(listed(FOUR))
        self.assertTrue(desk == other and not desk != other)
        desk.say("tell 0 0 2")
        self.assertTrue(desk != other and not desk == other)
        other.say("tell 0 0 0")
        self.assertTrue(desk != other)
        other.say("tell 0 0 2")
        # Whatever could be taken back.
        self.assertTrue(desk == other and not desk != other)
        self.assertFalse(Desk(FOUR) == Desk(THREE))
        for thing in (None, 7, FOUR, (FOUR, ()), "desk"):
            self.assertFalse(desk == thing)
            self.assertTrue(desk != thing)


class Made(unittest.TestCase):
    def test_rooms(self):
        for room in ((), None, FOUR[::-1], 7, "ab", ((0, True),), boxed(8, 1)[::-1]):
            with self.assertRaises(Unfit):
                Desk(room)
        for room in (boxed(8, 1), boxed(9, 2)):
            with self.assertRaises(TooMany):
                Desk(room)
        self.assertEqual(Desk(room=boxed(1, 60)).room(), boxed(1, 60))

    def test_what_is_handed_in_is_copied(self):
        room = [[0, 0], [0, 1]]
        desk = Desk(room)
        room.append([5, 5])
        room[0][0] = 9
        self.assertEqual(desk.room(), ((0, 0), (0, 1)))
        self.assertEqual(desk.say(text="many"), ("2",))

    def test_sure(self):
        desk = Desk(FOUR)
        self.assertEqual((desk.sure(), desk.told()), ((), ()))
        desk.say("tell 0 0 2")
        self.assertEqual(desk.sure(), (((0, 0), (2,)), ((0, 1), (4,))))
        self.assertEqual(Desk(((3, 3), (5, 5))).sure(), (((3, 3), (0,)), ((5, 5), (0,))))


if __name__ == "__main__":
    unittest.main()
