"""What a name is, and what an amount is: of anything."""

import unittest

from things import SIXTY_FIGURES, odd_things, whole_numbers

from ringclear.books import Book
from ringclear.names import is_amount, is_name


class Names(unittest.TestCase):

    def test_texts_of_one_to_eight_small_letters(self):
        for text in ["a", "z", "m", "ab", "ann", "az", "abcdefg", "abcdefgh", "zzzzzzzz"]:
            with self.subTest(text):
                self.assertIs(is_name(text), True)

    def test_every_small_letter_and_no_other_sign(self):
        for number in range(300):
            sign = chr(number)
            with self.subTest(number):
                self.assertIs(is_name(sign), 97 <= number <= 122)
                self.assertIs(is_name("a" + sign), 97 <= number <= 122)
                self.assertIs(is_name(sign + "a"), 97 <= number <= 122)

    def test_too_few_and_too_many_letters(self):
        for text in ["", "abcdefghi", "a" * 9, "a" * 12000]:
            self.assertIs(is_name(text), False)

    def test_anything_else_is_no_name(self):
        for thing in odd_things() + whole_numbers() + [Book(["ann"])]:
            with self.subTest(repr(thing)[:50]):
                self.assertIs(is_name(thing), False)

    def test_by_the_name_of_the_argument(self):
        self.assertIs(is_name(thing="ann"), True)
        self.assertIs(is_name(thing=["ann"]), False)


class Amounts(unittest.TestCase):

    def test_whole_numbers_from_1_on(self):
        for number in [1, 2, 10, 10 ** 59, SIXTY_FIGURES, 10 ** 60 - 1]:
            self.assertIs(is_amount(number), True)

    def test_whole_numbers_below_1(self):
        for number in [0, -1, -2, -SIXTY_FIGURES]:
            self.assertIs(is_amount(number), False)

    def test_anything_else_is_no_amount(self):
        for thing in odd_things() + ["ann", "a", Book(["ann"])]:
            with self.subTest(repr(thing)[:50]):
                self.assertIs(is_amount(thing), False)

    def test_by_the_name_of_the_argument(self):
        self.assertIs(is_amount(thing=1), True)
        self.assertIs(is_amount(thing=True), False)


if __name__ == "__main__":
    unittest.main()
