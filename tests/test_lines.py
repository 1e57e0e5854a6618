"""Integers in texts."""

import unittest

from treetrain.lines import is_numeral


class Numerals(unittest.TestCase):
    def test_numerals(self):
        for word in ("0", "1", "9", "10", "100", "999", "1000", "9999"):
            with self.subTest(word):
                self.assertIs(is_numeral(word), True)

    def test_other_words(self):
        for word in ("", " ", "00", "01", "0001", "10000", "99999", "1" * 20000, "-1", "+1", "1.", "1_0", "x", "1x", "\u0661"):
            with self.subTest(word):
                self.assertIs(is_numeral(word), False)


if __name__ == "__main__":
    unittest.main()
