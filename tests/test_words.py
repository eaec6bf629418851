"""Names (point 5)."""

import string
import unittest

from pairedthrows.words import is_name

KEPT = "kinds ladder flat choose first let tell when else times end of".split(" ")
OTHER_SIGNS = (string.digits + string.ascii_uppercase + " \n\t\r()[]{}-_|;/+*<=.,:'\"!~`@\u00e9\u00df\u0430\u00b2\0")


class Words(unittest.TestCase):
    def test_small_letters_of_one_to_eight(self):
        for sign in string.ascii_lowercase:
            for length in range(1, 9):
                self.assertIs(is_name(sign * length), True)
        for text in ("x", "ab", "abcdefgh", "stuvwxyz", "ijklmnop", "qr"):
            self.assertIs(is_name(text), True)

    def test_too_short_and_too_long(self):
        self.assertIs(is_name(""), False)
        for length in (9, 10, 11, 100, 4000):
            self.assertIs(is_name("a" * length), False)

    def test_kept_words(self):
        self.assertEqual(len(KEPT), 12)
        for word in KEPT:
            self.assertIs(is_name(word), False)

    def test_kept_words_with_a_letter_more_or_fewer(self):
        for word in KEPT:
            for k in range(len(word) + 1):
                for sign in "aesz":
                    self.assertIs(is_name(word[:k] + sign + word[k:]), True)
            for k in range(len(word)):
                self.assertIs(is_name(word[:k] + word[k + 1:]), True)

    def test_kept_words_in_great_letters(self):
        for word in KEPT:
            self.assertIs(is_name(word.upper()), False)
            self.assertIs(is_name(word.capitalize()), False)

    def test_other_signs_at_any_place(self):
        for sign in OTHER_SIGNS:
            self.assertIs(is_name(sign), False, repr(sign))
            for text in ("a", "abc", "abcdefg", "of", "kinds"):
                for k in range(len(text) + 1):
                    self.assertIs(is_name(text[:k] + sign + text[k:]), False, repr(sign))

    def test_asked_again(self):
        for text in ("abc", "of", "", "a b"):
            self.assertIs(is_name(text), is_name(text))


if __name__ == "__main__":
    unittest.main()
