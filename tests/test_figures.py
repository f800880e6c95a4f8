import unittest

from shelfcounts.figures import amount_of, number_of

WRONG = ["", " ", "-", "--1", "-0", "00", "01", "007", "+1", " 1", "1 ", "1\n", "1_0", "1,0", "0x1", "1.0", "1-", "a",
         "1a", "9" * 61, "0" * 60, "0" * 61, "9" * 10000, "\u0661", "\u00b2"]


class FiguresTest(unittest.TestCase):
    def test_numbers(self):
        for number in (0, 1, 9, 10, 100, 9999, 10 ** 9, 10 ** 59, 10 ** 60 - 1):
            self.assertEqual(number_of(str(number)), number)
            self.assertEqual(amount_of(str(number)), number)
            self.assertEqual(amount_of(str(-number)), -number)

    def test_below_nought(self):
        for number in (1, 5, 10, 10 ** 60 - 1):
            self.assertIsNone(number_of(str(-number)))

    def test_what_writes_none(self):
        for word in WRONG:
            with self.subTest(word=word[:70]):
                self.assertIsNone(number_of(word))
                self.assertIsNone(amount_of(word))
        for sign in map(chr, range(127)):
            if sign not in "0123456789":
                for word in (sign, "1" + sign, sign * 2):
                    self.assertIsNone(number_of(word))
        for word in ("-01", "-" + "9" * 61, "- 1", "-a", "-1 ", "+-1"):
            self.assertIsNone(amount_of(word))


if __name__ == "__main__":
    unittest.main()
