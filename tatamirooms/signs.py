"""Words of a text."""

from tatamirooms.errors import BadText
from tatamirooms.plain import needed, plain_items, plain_number

FIGURES = "0123456789"
SIGNS = "abcdefghijklmnopqrstuvwxyz0123456789-"
LONGEST = 12


def all_of(word, signs):
    """Whether each sign of word is one of signs."""
    return all([sign in signs for sign in word])


def words(text):
    """The WORDS of text; BadText(line) where a sign stands in no word and is no blank."""
    found = []
    for line, row in enumerate(text.split("\n")):
        for word in row.partition("#")[0].split(" "):
            if not all_of(word, SIGNS):
                raise BadText(line)
            if word:
                found.append((word, line))
    return found


def plain_word(value):
    """A pair (word, line)."""
    if not isinstance(value, (list, tuple)) or len(value) != 2:
        return None
    word, line = value
    if not isinstance(word, str) or not word or not all_of(word, SIGNS):
        return None
    if plain_number(line, 0) is None:
        return None
    return word, line


def plain_words(value):
    """WORDS."""
    pairs = plain_items(value, plain_word)
    if pairs is None or any([pairs[at][1] > pairs[at + 1][1] for at in range(len(pairs) - 1)]):
        return None
    return pairs


def text_of(words):
    """The text with each word in its line."""
    words = needed(plain_words(words))
    if not words:
        return ""
    rows = [[] for _ in range(words[-1][1] + 1)]
    for word, line in words:
        rows[line].append(word)
    return "".join([" ".join(row) + "\n" for row in rows])


def number_of(word):
    """The number of a number word, None if word is none."""
    figures = word[1:] if word.startswith("-") else word
    if not 1 <= len(figures) <= LONGEST or not all_of(figures, FIGURES):
        return None
    if figures.startswith("0") and word != "0":
        return None
    return int(word)


def word_of(number):
    """The number word of number."""
    return str(number)
