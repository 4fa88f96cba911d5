"""4.4 and 4.5, as far as they tell what a name is and what a number is (and 0.3, 0.5)."""

import unittest

from lockhouse.errors import BadRow
from lockhouse.words import is_name, number_of

LETTERS = "abcdefghijklmnopqrstuvwxyz"

# Signs that Python takes for letters or figures too, and such as look like a letter or a figure.
STRANGE_LETTERS = ("\u00e4", "\u00df", "\u0131", "\u0430", "\uff41", "\u00aa", "\u017f")
STRANGE_FIGURES = ("\u0661", "\uff11", "\u00b2", "\u0967", "\u2460", "\U0001d7cf")


class Names(unittest.TestCase):
    def test_one_letter(self):
        for letter in LETTERS:
            with self.subTest(letter=letter):
                self.assertIs(is_name(letter), True)

    def test_of_all_single_signs_only_the_letters(self):
        names = [chr(k) for k in range(0x3000) if is_name(chr(k))]
        self.assertEqual("".join(names), LETTERS)

    def test_every_length(self):
        for many in range(0, 30):
            with self.subTest(many=many):
                self.assertIs(is_name("a" * many), 1 <= many <= 12)

    def test_twelve_letters_and_thirteen(self):
        self.assertIs(is_name("abcdefghijkl"), True)
        self.assertIs(is_name("opqrstuvwxyz"), True)
        self.assertIs(is_name("abcdefghijklm"), False)
        self.assertIs(is_name("z" * 100000), False)

    def test_no_letter_at_all(self):
        self.assertIs(is_name(""), False)

    def test_words_of_rows_are_names_too(self):
        for word in ("sea", "reach", "lock", "night", "basin", "pump", "keeper"):
            self.assertIs(is_name(word), True)

    def test_other_signs_at_every_place(self):
        others = ("A", "Z", "0", "9", " ", "\t", "\n", "\r", "-", "_", "'", ".", "`", "{", "@", "[", "\x00")
        for sign in others + STRANGE_LETTERS:
            for word in (sign, sign + "mill", "mi" + sign + "ll", "mill" + sign):
                with self.subTest(word=word):
                    self.assertIs(is_name(word), False)


class Numbers(unittest.TestCase):
    def refused(self, word):
        with self.subTest(word=word[:40]):
            with self.assertRaises(BadRow) as caught:
                number_of(word)
            self.assertIs(type(caught.exception), BadRow)

    def test_single_figures(self):
        for number in range(10):
            self.assertEqual(number_of(str(number)), number)

    def test_numbers_of_several_figures(self):
        for word, number in (("10", 10), ("42", 42), ("100", 100), ("907", 907), ("1234567890", 1234567890)):
            self.assertEqual(number_of(word), number)

    def test_a_whole_number_is_told(self):
        for word in ("0", "1", "999999999999"):
            self.assertIs(type(number_of(word)), int)

    def test_every_number_of_up_to_four_figures(self):
        self.assertEqual([number_of(str(number)) for number in range(10000)], list(range(10000)))

    def test_twelve_figures_and_thirteen(self):
        self.assertEqual(number_of("999999999999"), 999999999999)
        self.assertEqual(number_of("100000000000"), 100000000000)
        self.refused("1000000000000")
        self.refused("9999999999999")
        self.refused("1" * 5000)

    def test_every_length(self):
        for many in range(1, 13):
            self.assertEqual(number_of("7" * many), int("7" * many))
        for many in range(13, 30):
            self.refused("7" * many)

    def test_a_nought_ahead(self):
        self.assertEqual(number_of("0"), 0)
        for word in ("00", "01", "007", "010", "000000000000", "099999999999", "0000000000000"):
            self.refused(word)

    def test_an_empty_text(self):
        self.refused("")

    def test_other_signs_at_every_place(self):
        others = ("+", "-", " ", "\t", "\n", "\r", "_", ".", ",", "a", "e", "x", "/", ":", "\x00", "\u2212")
        for sign in others + STRANGE_FIGURES:
            for word in (sign, sign + "1", "1" + sign + "1", "1" + sign, sign + "0", "0" + sign):
                self.refused(word)

    def test_forms_that_python_would_read(self):
        for word in ("1_000", "0x1f", "0b1", "0o7", "1e3", "1.0", "-0", "+0", "- 1", "True", "False", "None"):
            self.refused(word)


if __name__ == "__main__":
    unittest.main()
