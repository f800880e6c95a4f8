import unittest

from shelfcounts import errors

NAMES = [
    "NoHouse", "NoEntry", "NoName", "NoMove", "NoGo", "Twice", "TooMany", "NoFilling", "NoTie", "Closed",
    "NoDay", "NoThen", "Clash", "NoGood", "NoPlace", "NoRow", "NoText",
]


class ErrorsTest(unittest.TestCase):
    def test_the_base_of_all_is_a_value_error(self):
        self.assertEqual(errors.CountError.__bases__, (ValueError,))

    def test_each_class_stands_right_under_the_base(self):
        for name in NAMES:
            with self.subTest(name=name):
                self.assertEqual(getattr(errors, name).__bases__, (errors.CountError,))

    def test_all_can_be_raised_and_caught_as_refusals(self):
        for name in NAMES:
            kind = getattr(errors, name)
            with self.subTest(name=name), self.assertRaises(errors.CountError):
                raise kind(3) if name == "NoText" else kind("why")

    def test_no_text_is_made_of_its_line(self):
        for line in (0, 1, 32):
            refusal = errors.NoText(line)
            self.assertEqual(refusal.line, line)


if __name__ == "__main__":
    unittest.main()
