"""Numbers and words as they stand in texts."""

import unittest

from things import SIXTY_FIGURES

from ringclear.figures import figures_of, is_number, is_word, number_of

NUMBERS = [0, 1, 9, 10, 100, 10 ** 59, 10 ** 60 - 1, 10 ** 60, 10 ** 60 + 1, 10 ** 61, SIXTY_FIGURES * 10 ** 60 + 5]


class Figures(unittest.TestCase):

    def test_numbers_in_figures(self):
        for number in NUMBERS:
            with self.subTest(number):
                self.assertEqual(figures_of(number), str(number))
                self.assertEqual(number_of(str(number)), number)
                self.assertIs(is_number(str(number)), True)

    def test_more_figures_than_python_reads_at_once(self):
        for figures in ["7" * 9000, "1" + "0" * 9000, "9" * 119 + "0" * 4981]:
            self.assertIs(is_number(figures), True)
            self.assertEqual(figures_of(number_of(figures)), figures)
        self.assertEqual(number_of("9" * 9000) + 1, 10 ** 9000)

    def test_what_is_no_number(self):
        for text in ["", "00", "01", "007", "-1", "+1", "1 ", " 1", "1_0", "1.0", "1,000", "a", "0x1", "1e3", "\n1"]:
            with self.subTest(text):
                self.assertIs(is_number(text), False)

    def test_words(self):
        for text in ["a", "z", "ann", "person", "abcdefghi", "a" * 500]:
            self.assertIs(is_word(text), True)
        for text in ["", "A", "a1", "1", "a b", " ", "a-b", "`", "{", "a\n"]:
            self.assertIs(is_word(text), False)


if __name__ == "__main__":
    unittest.main()
