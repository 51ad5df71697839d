"""0.2: numbers, names, words and values."""

import string
import unittest

from doorhouse.values import (are_named_rows, are_rising, are_unlike, is_name, is_name_or_empty, is_number, is_number_from,
                              is_text_value, is_value, is_word, is_written_number)
from tests.helper import anything

KINDS = (is_number, is_name, is_word, is_value)


class Numbers(unittest.TestCase):
    def test_ints_that_are_no_truths(self):
        for thing in (0, 1, -1, 9999, 10000, -(10 ** 39), 10 ** 40 - 1):
            self.assertIs(is_number(thing), True, thing)
        for thing in (True, False, None, "1", (1,), [1], {1: 1}):
            self.assertIs(is_number(thing), False, thing)

    def test_from_least_to_most(self):
        for thing, told in ((2, False), (3, True), (5, True), (6, False), (True, False), ("4", False), (None, False)):
            self.assertIs(is_number_from(thing, 3, 5), told, thing)
        self.assertIs(is_number_from(True, 0, 5), False)


class Texts(unittest.TestCase):
    def test_names(self):
        for thing in ("a", "z", "no", "abcdefgh", "zzzzzzzz"):
            self.assertIs(is_name(thing), True, thing)
        for thing in ("", "abcdefghi", "A", "a1", "1", "a-b", "-", " a", "a ", "a\n", "\t", "a_b", "{a}", "`"):
            self.assertIs(is_name(thing), False, thing)

    def test_names_or_empty(self):
        for thing in ["", "a", "abcdefgh", "A", " ", None, 0, False, (), [], *anything()]:
            self.assertIs(is_name_or_empty(thing), is_name(thing) or (isinstance(thing, str) and thing == ""), thing)

    def test_words(self):
        for thing in ("a", "0", "-", "abcdefgh", "12345678", "--------", "a-1", "007"):
            self.assertIs(is_word(thing), True, thing)
        for thing in ("", "abcdefghi", "123456789", "A", "a b", "a_b", "a.b", "/a", "a/", "a\n", "a\t", "{a}", ":"):
            self.assertIs(is_word(thing), False, thing)

    def test_each_sign(self):
        for code in range(127):
            sign = chr(code)
            self.assertIs(is_name(sign), sign in string.ascii_lowercase, code)
            self.assertIs(is_word(sign), sign in string.ascii_lowercase + string.digits + "-", code)
            self.assertIs(is_value(sign), 32 <= code and sign != "%", code)

    def test_signs_of_other_alphabets(self):
        for thing in ("\u00e4", "\u0661", "\u00b2", "\x7f", "\u00a0"):
            for tell in (is_name, is_word, is_value):
                self.assertIs(tell(thing), False, thing)


class Values(unittest.TestCase):
    def test_numbers(self):
        for thing, told in ((0, True), (9999, True), (-1, False), (10000, False), (True, False), (False, False)):
            self.assertIs(is_value(thing), told, thing)

    def test_texts(self):
        for thing in ("", " ", "~", "~" * 40, "a<b>&\"c\"", "{{x}}"):
            self.assertIs(is_value(thing), True, thing)
            self.assertIs(is_text_value(thing), True, thing)
        for thing in ("a" * 41, "%", "a%b", "a\n", "\t"):
            self.assertIs(is_value(thing), False, thing)

    def test_others(self):
        for thing in (None, (), [], {}, ("a",), ["a"]):
            self.assertIs(is_value(thing), False, thing)

    def test_each_is_told_of_anything(self):
        for thing in anything():
            for tell in KINDS:
                self.assertIn(tell(thing), (True, False))
                self.assertIs(type(tell(thing)), bool)


class Written(unittest.TestCase):
    def test_as_numbers_are(self):
        for number in (0, 1, 9, 10, 99, 100, 999, 1000, 9999):
            self.assertIs(is_written_number(str(number)), True, number)
        for text in ("", "00", "01", "0000", "007", "10000", "-1", "-0", "+1", "a", "1a", "1-", " 1", "1 "):
            self.assertIs(is_written_number(text), False, text)


class Unlike(unittest.TestCase):
    def test_texts(self):
        for texts, told in (([], True), (["a"], True), (["a", "b"], True), (["a", "b", "a"], False)):
            self.assertIs(are_unlike(texts), told, texts)


class Rising(unittest.TestCase):
    def test_each_is_greater_than_the_one_ahead(self):
        for things, told in (((), True), (("a",), True), (("a", "aa", "b"), True), (("a", "a"), False), (("a", "c", "b"), False),
                             ([("a", 9), ("a", 10)], True), ([("a", 1), ("a", 1)], False)):
            self.assertIs(are_rising(things), told, things)


class NamedRows(unittest.TestCase):
    def test_least_to_most_rows_with_unlike_names(self):
        def is_row(thing):
            return isinstance(thing, tuple) and len(thing) == 1

        rows = (("a",), ("b",), ("c",))
        for thing, told in ((rows, True), (rows[:2], True), (rows[:1], False), (rows + (("d",),), False), (rows[:1] * 2, False),
                            (list(rows), False), (rows[:2] + ((),), False), (None, False)):
            self.assertIs(are_named_rows(thing, 2, 3, is_row), told, thing)
        self.assertIs(are_named_rows((), 0, 3, is_row), True)


if __name__ == "__main__":
    unittest.main()
