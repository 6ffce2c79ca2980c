"""Books as texts, told and read."""

import random
import unittest

from things import SIXTY_FIGURES, TWELVE, any_book, fallen_book

from ringclear.books import Book
from ringclear.booktexts import book_text, read_book
from ringclear.errors import NoText


def plain_text(book):
    """The text of a book, row by row, in the plainest way."""
    text = ""
    for who in book.persons():
        text += "person " + who + " " + str(book.given(who)) + " " + str(book.fallen(who)) + "\n"
        for to, amount in book.notes(who):
            text += "  " + to + " " + str(amount) + "\n"
    return text


class Texts(unittest.TestCase):

    def there_and_back(self, book):
        text = book_text(book)
        self.assertIs(type(text), str)
        self.assertEqual(text, plain_text(book))
        read = read_book(text)
        self.assertIsInstance(read, Book)
        self.assertEqual(read, book)
        self.assertIsNot(read, book)
        self.assertEqual(book_text(read), text)
        for who in book.persons():
            self.assertEqual((read.pile(who), read.cash(who)), (book.pile(who), book.cash(who)))

    def test_row_by_row(self):
        book = Book(["eve", "ann", "bob"]).give("eve", 12).put("eve", "bob", 7).put("bob", "bob", 1)
        book = book.put("eve", "ann", 10).put("ann", "eve", 3).let_fall({"eve": 9, "ann": 2})
        text = "person eve 12 9\n  bob 7\n  ann 10\nperson ann 0 2\n  eve 3\nperson bob 0 0\n  bob 1\n"
        self.assertEqual(book_text(book), text)
        self.assertEqual(read_book(text), book)

    def test_without_notes(self):
        self.assertEqual(book_text(Book(["ann"])), "person ann 0 0\n")
        for many in range(1, 13):
            text = "".join("person " + who + " 0 0\n" for who in TWELVE[:many])
            self.assertEqual(book_text(Book(TWELVE[:many])), text)
            self.assertEqual(read_book(text), Book(TWELVE[:many]))
            self.there_and_back(Book(TWELVE[:many]).give("l", SIXTY_FIGURES))

    def test_names_like_other_words(self):
        book = Book(["person", "persons", "note"]).put("person", "person", 1).put("note", "person", 2)
        self.assertEqual(book_text(book), "person person 0 0\n  person 1\nperson persons 0 0\nperson note 0 0\n  person 2\n")
        self.there_and_back(book)

    def test_of_anything_that_a_book_may_be(self):
        for seed in range(150):
            chance = random.Random(seed)
            persons = chance.sample(TWELVE, chance.randint(1, 12))
            book = any_book(chance, persons, chance.choice([0, 1, 5, 20, 60]), figures=chance.choice([1, 3, 60]))
            with self.subTest(seed):
                self.there_and_back(book)
                self.there_and_back(fallen_book(chance, book))

    def test_sixty_notes_of_sixty_figures(self):
        book = Book(TWELVE)
        for number in range(60):
            book = book.put(TWELVE[number % 12], TWELVE[number % 7], SIXTY_FIGURES - number)
        self.there_and_back(book)
        for who in TWELVE:
            book = book.give(who, SIXTY_FIGURES + 9)
        self.there_and_back(book.let_fall({who: SIXTY_FIGURES for who in TWELVE}))

    def test_a_ring_fell_without_any_cash(self):
        book = Book(["ann", "bob"]).put("ann", "bob", 3).put("bob", "ann", 4).let_fall({"ann": 3, "bob": 3})
        text = "person ann 0 3\n  bob 3\nperson bob 0 3\n  ann 4\n"
        self.assertEqual(book_text(book), text)
        self.assertEqual(read_book(text), book)

    def test_sums_of_more_than_sixty_figures(self):
        book = Book(["ann", "bob"]).put("ann", "bob", SIXTY_FIGURES).put("ann", "bob", SIXTY_FIGURES)
        for _ in range(30):
            book = book.give("ann", SIXTY_FIGURES)
        self.there_and_back(book.let_fall({"ann": 2 * SIXTY_FIGURES - 1}))

    def test_any_number_may_stand_in_a_text(self):
        text = "person ann " + "3" * 5000 + " 1\n  bob " + "4" * 5000 + "\nperson bob 0 0\n"
        self.assertEqual(book_text(read_book(text)), text)
        self.assertEqual(read_book(text).fallen("ann"), 1)

    def test_what_was_told_or_read_knows_nothing_of_the_other(self):
        book = Book(["ann", "bob"]).put("ann", "bob", 3)
        text = book_text(book)
        read = read_book(text)
        book.give("ann", 3).let_fall({"ann": 3})
        read.pile("ann").clear()
        read.notes("ann").append(("bob", 9))
        more = read.put("bob", "ann", 2)
        self.assertEqual([book_text(one) for one in [book, read, read_book(text)]], [text] * 3)
        self.assertEqual(book_text(more), text + "  ann 2\n")
        self.assertIsNot(read_book(text), read)

    def test_by_the_names_of_the_arguments(self):
        book = Book(["ann"]).give("ann", 3)
        self.assertEqual(book_text(book=book), "person ann 3 0\n")
        self.assertEqual(read_book(text="person ann 3 0\n"), book)
        with self.assertRaises(NoText):
            read_book(text=book)


if __name__ == "__main__":
    unittest.main()
