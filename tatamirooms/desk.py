"""The desk: a ROOM laid bit by bit, by lines of text."""

from tatamirooms.errors import BadText, NothingDone
from tatamirooms.grid import let_table
from tatamirooms.passage import Passage, check_columns
from tatamirooms.plain import need_room
from tatamirooms.signs import number_of

# How many numbers stand behind the word of a line.
NUMBERS = {"tell": 3, "forget": 2, "kinds": 2, "many": 0, "halves": 0, "open": 0}
LONGEST = 6
LAST_KIND = 4
DONE = "done"
NO_SQUARE = "no square"
NO_KIND = "no kind"
BARRED = "barred"
NOT_TOLD = "not told"


def read_number(word):
    """The number that a word of a line is; None if it is none."""
    if len(word) > LONGEST or word.startswith("-"):
        return None
    return number_of(word)


def read_line(row):
    """The pair of the word of a line and the list of its numbers; None if it is none of the table."""
    parts = row.split(" ")
    word = parts[0]
    numbers = [read_number(part) for part in parts[1:]]
    if len(numbers) != NUMBERS.get(word) or None in numbers:
        return None
    return word, numbers


def read_lines(text):
    """The list of the lines of text, read; BadText(line) for the first that is none."""
    found = []
    for line, row in enumerate(text.split("\n")):
        read = read_line(row)
        if read is None:
            raise BadText(line)
        found.append(read)
    return found


def kept_with(room, lets, by_half=False):
    """The FLOORS of room that keep lets, gone through."""
    return Passage(room, let_table(room, lets), by_half=by_half, either=True)


def whole_answer(room, lets, word):
    """The answer to a line without numbers."""
    if word == "many":
        return str(kept_with(room, lets).many())
    if word == "halves":
        counts = kept_with(room, lets, by_half=True).halves()
        return f"{counts[0][0]} {counts[-1][0]}"
    seen = kept_with(room, lets).kinds_seen()
    return str(len([square for square in room if len(seen[square]) > 1]))


def without(lets, square):
    """lets without the pair of square."""
    return tuple([(own, kinds) for own, kinds in lets if own != square])


def tell(room, lets, square, kind):
    """The answer to a line that tells the KIND of a SQUARE, and the LETS behind it."""
    if kind > LAST_KIND:
        return NO_KIND, lets
    told = tuple(sorted(without(lets, square) + ((square, (kind,)),)))
    if not kept_with(room, told).many():
        return BARRED, lets
    return DONE, told


def forget(lets, square):
    """The answer to a line that takes away what is told of a SQUARE, and the LETS behind it."""
    told = without(lets, square)
    if told == lets:
        return NOT_TOLD, lets
    return DONE, told


def answered(room, lets, word, numbers):
    """The answer to a line, and the LETS behind it."""
    if not numbers:
        return whole_answer(room, lets, word), lets
    square = (numbers[0], numbers[1])
    if square not in room:
        return NO_SQUARE, lets
    if word == "tell":
        return tell(room, lets, square, numbers[2])
    if word == "forget":
        return forget(lets, square)
    kinds = kept_with(room, lets).kinds_seen()[square]
    return " ".join([str(kind) for kind in kinds]), lets


class Desk:
    """A ROOM, the CLUES that are told of it, and what of them can be taken back or done once more."""

    def __init__(self, room):
        self.squares = need_room(room)
        check_columns(self.squares)
        self.kept = ()
        self.past = []
        self.later = []

    def __eq__(self, other):
        """Whether other is a Desk of the same ROOM with the same told."""
        return isinstance(other, Desk) and self.squares == other.squares and self.kept == other.kept

    def say(self, text):
        """The tuple of the answers to the lines of text; BadText(line), ahead of all, for the first that is none."""
        lines = read_lines(text)
        ahead = self.kept
        answers = []
        for word, numbers in lines:
            answer, self.kept = answered(self.squares, self.kept, word, numbers)
            answers.append(answer)
        if DONE in answers:
            self.past.append(ahead)
            self.later = []
        return tuple(answers)

    def room(self):
        """The ROOM."""
        return self.squares

    def told(self):
        """The LETS that are told."""
        return self.kept

    def sure(self):
        """The LETS of all SQUARES that have just one KIND in FLOORS that keep what is told."""
        seen = kept_with(self.squares, self.kept).kinds_seen()
        return tuple([(square, seen[square]) for square in self.squares if len(seen[square]) == 1])

    def undo(self):
        """Takes back the last say by which something was done; how many SQUARES are told then."""
        if not self.past:
            raise NothingDone()
        self.later.append(self.kept)
        self.kept = self.past.pop()
        return len(self.kept)

    def redo(self):
        """Does the last say that undo took back once more; how many SQUARES are told then."""
        if not self.later:
            raise NothingDone()
        self.past.append(self.kept)
        self.kept = self.later.pop()
        return len(self.kept)

    def twin(self):
        """Another Desk like it, with all that could be taken back, and done once more."""
        other = Desk(self.squares)
        other.kept = self.kept
        other.past = list(self.past)
        other.later = list(self.later)
        return other
