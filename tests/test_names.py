import string
import unittest

from shelfcounts.names import is_name, is_whole
from tests.helper import whatever


class NamesTest(unittest.TestCase):
    def test_names_of_one_to_eight_small_letters(self):
        for thing in ("a", "z", "az", "oil", "cellars", "abcdefgh", "zzzzzzzz"):
            with self.subTest(thing=thing):
                self.assertIs(is_name(thing), True)

    def test_each_small_letter_and_no_other_sign(self):
        signs = [chr(code) for code in range(32, 127)] + ["\n"]
        for sign in signs:
            for thing in (sign, "ab" + sign, sign + "ab"):
                with self.subTest(thing=thing):
                    self.assertIs(is_name(thing), sign in string.ascii_lowercase)

    def test_none_without_letters_and_none_of_nine(self):
        self.assertIs(is_name(""), False)
        self.assertIs(is_name("abcdefghi"), False)

    def test_other_things_are_none(self):
        for thing in whatever():
            with self.subTest(thing=str(thing)[:60]):
                self.assertIs(is_name(thing), False)

    def test_truths_are_no_whole_numbers(self):
        for thing in (0, 1, -1, 10 ** 60 - 1):
            self.assertIs(is_whole(thing), True)
        for thing in (True, False, None, "1", (1,), [1], {1: 1}):
            self.assertIs(is_whole(thing), False)


if __name__ == "__main__":
    unittest.main()
