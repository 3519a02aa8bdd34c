"""Words of a text [4]."""

import re
import unittest

from tatamirooms.errors import BadText, Unfit
from tatamirooms.signs import number_of, text_of, word_of, words
from tests.naive import seeded

SIGNS = "abcdefghijklmnopqrstuvwxyz0123456789-"


def some_words(chance):
    """WORDS told by chance."""
    found, line = [], 0
    for _ in range(chance.randrange(8)):
        line += chance.choice((0, 0, 1, 3))
        found.append(("".join(chance.choice(SIGNS) for _ in range(chance.randrange(1, 6))), line))
    return found


def spoilt(text, chance):
    """The same words with more blanks between them, and a remark behind each line."""
    rows = [row.replace(" ", " " * chance.randrange(1, 4)) for row in text.split("\n")]
    return "\n".join(" " * chance.randrange(3) + row + chance.choice(("", " ", "#", " # A.b %?# c", "#x y"))
                     for row in rows)


class Words(unittest.TestCase):
    def test_texts_without_words(self):
        for text in ("", " ", "\n", "\n \n\n", "#", "# a remark, With Signs!", "#\n #\n", "   # a\n\n# b"):
            with self.subTest(text=text):
                self.assertEqual(words(text), [])

    def test_words_and_lines(self):
        self.assertEqual(words("a"), [("a", 0)])
        self.assertEqual(words("\n\n a  b \n-"), [("a", 2), ("b", 2), ("-", 3)])
        self.assertEqual(words("a#b c\nd # e # f\ng"), [("a", 0), ("d", 1), ("g", 2)])
        self.assertEqual(words("--a-1 007 " + "z9-" * 2000), [("--a-1", 0), ("007", 0), ("z9-" * 2000, 0)])
        self.assertEqual(words("a\n"), [("a", 0)])

    def test_result_is_a_new_list_of_pairs(self):
        given = words("a b")
        self.assertIsInstance(given, list)
        self.assertTrue(all(isinstance(pair, tuple) for pair in given))

    def test_all_signs(self):
        for sign in map(chr, range(32, 127)):
            with self.subTest(sign=sign):
                if sign in SIGNS:
                    self.assertEqual(words("x" + sign), [("x" + sign, 0)])
                elif sign in " #":
                    self.assertEqual(words("x" + sign), [("x", 0)])
                else:
                    for text, line in ((sign, 0), ("a\n b" + sign, 1), ("a # b\n\n" + sign + "# c\nD", 2)):
                        with self.assertRaises(BadText) as raised:
                            words(text)
                        self.assertEqual(vars(raised.exception), {"line": line})
                    self.assertEqual(words("a # " + sign), [("a", 0)])

    def test_the_first_bad_line_is_told(self):
        for text, line in (("A\nB", 0), ("a\n#B\nc!", 2), ("a #\n.", 1), ("\n" * 50 + "_", 50)):
            with self.subTest(text=text), self.assertRaises(BadText) as raised:
                words(text)
            self.assertEqual(raised.exception.line, line)

    def test_against_a_search(self):
        chance = seeded(4)
        for _ in range(2000):
            text = "".join(chance.choice("ab-1 \n#.") for _ in range(chance.randrange(14)))
            rows = [row.split("#")[0] for row in text.split("\n")]
            bad = [at for at, row in enumerate(rows) if "." in row]
            with self.subTest(text=text):
                if bad:
                    with self.assertRaises(BadText) as raised:
                        words(text)
                    self.assertEqual(raised.exception.line, bad[0])
                else:
                    self.assertEqual(words(text), [(word, at) for at, row in enumerate(rows)
                                                   for word in re.findall("[a-z0-9-]+", row)])


class Texts(unittest.TestCase):
    def test_some_texts(self):
        self.assertEqual(text_of([]), "")
        self.assertEqual(text_of(()), "")
        self.assertEqual(text_of([("a", 0)]), "a\n")
        self.assertEqual(text_of([("a", 2), ("b", 2), ("c", 4)]), "\n\na b\n\nc\n")
        self.assertEqual(text_of([["-", 1], ["-", 1]]), "\n- -\n")

    def test_words_of_a_text_told_are_the_words(self):
        chance = seeded(5)
        for _ in range(500):
            told = some_words(chance)
            text = text_of(told)
            self.assertEqual(words(text), told)
            self.assertEqual(words(spoilt(text, chance)), told)
            self.assertEqual(text_of(words(text)), text)
            self.assertEqual(text.count("\n"), told[-1][1] + 1 if told else 0)

    def test_a_line_break_between_two_words_puts_the_later_ones_on(self):
        told = [("a", 0), ("b", 0), ("c", 0), ("d", 1)]
        self.assertEqual(words("a b c\nd"), told)
        self.assertEqual(words("a\n b c\nd"), [("a", 0), ("b", 1), ("c", 1), ("d", 2)])

    def test_falling_lines_are_unfit(self):
        with self.assertRaises(Unfit):
            text_of([("a", 2), ("b", 1)])


class Numbers(unittest.TestCase):
    def test_number_words(self):
        for word, number in (("0", 0), ("7", 7), ("10", 10), ("-1", -1), ("-10", -10), ("999999999999", 10 ** 12 - 1),
                             ("-999999999999", 1 - 10 ** 12), ("100000000000", 10 ** 11)):
            with self.subTest(word=word):
                self.assertEqual(number_of(word), number)
                self.assertEqual(word_of(number), word)

    def test_what_is_no_number_word(self):
        for word in ("", "-", "--1", "-0", "00", "01", "-01", "1000000000000", "-1000000000000", "0000000000000", "+1",
                     "1-", "1-2", "a", "1a", " 1", "1 ", "1\n", "1_0", "0x1", "1.0", "\u0661", "\u00b2", "\uff11",
                     "1" * 5000):
            with self.subTest(word=word):
                self.assertIsNone(number_of(word))

    def test_both_ways(self):
        for number in list(range(-1200, 1200)) + [10 ** n + k for n in range(4, 12) for k in (-1, 0, 1)]:
            self.assertEqual(number_of(word_of(number)), number)


if __name__ == "__main__":
    unittest.main()
