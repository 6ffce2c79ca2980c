"""Notes that are put, and what is given."""

import unittest

from things import SIXTY_FIGURES, odd_things

from ringclear.books import Book
from ringclear.errors import Full, NoAmount, NoSuch

NO_AMOUNTS = [0, "1", "ann"]


def full_book():
    """A book of sixty notes, twenty of each of three persons."""
    book = Book(["ann", "bob", "eve"])
    for number in range(60):
        book = book.put(["ann", "bob", "eve"][number // 20], "bob", number + 1)
    return book


class Put(unittest.TestCase):

    def test_another_book_is_told(self):
        elder = Book(["ann", "bob"])
        book = elder.put("ann", "bob", 3)
        self.assertIsInstance(book, Book)
        self.assertEqual(book.notes("ann"), [("bob", 3)])
        self.assertEqual((elder.notes("ann"), elder.pile("ann"), len(elder)), ([], [], 0))

    def test_the_elder_notes_lie_above(self):
        book = Book(["ann", "bob", "eve"]).put("ann", "eve", 3).put("bob", "ann", 9).put("ann", "bob", 4)
        book = book.put("ann", "eve", 3)
        self.assertEqual(book.notes("ann"), [("eve", 3), ("bob", 4), ("eve", 3)])
        self.assertEqual(book.pile("ann"), [("eve", 3), ("bob", 4), ("eve", 3)])
        self.assertEqual(book.notes("bob"), [("ann", 9)])
        self.assertEqual([book.whole_of(who) for who in book.persons()], [10, 9, 0])
        self.assertEqual(len(book), 4)

    def test_a_note_is_a_tuple(self):
        book = Book(["ann", "bob"]).put("ann", "bob", 3)
        self.assertIs(type(book.notes("ann")[0]), tuple)
        self.assertIs(type(book.pile("ann")[0]), tuple)

    def test_a_note_changes_no_cash(self):
        book = Book(["ann", "bob"]).put("ann", "bob", 3).put("bob", "bob", 2)
        for who in ["ann", "bob"]:
            told = [book.cash(who), book.given(who), book.fallen(who), book.fallen_to(who)]
            self.assertEqual(told, [0, 0, 0, 0])

    def test_notes_to_oneself(self):
        book = Book(["ann"]).put("ann", "ann", 3).put("ann", "ann", 1)
        self.assertEqual(book.pile("ann"), [("ann", 3), ("ann", 1)])
        self.assertEqual((book.whole_of("ann"), len(book)), (4, 2))

    def test_a_note_put_when_some_has_fallen(self):
        book = Book(["ann", "bob"]).give("ann", 9).put("ann", "bob", 3).let_fall({"ann": 3})
        self.assertEqual((book.pile("ann"), len(book)), ([], 0))
        book = book.put("ann", "ann", 2)
        self.assertEqual(book.pile("ann"), [("ann", 2)])
        self.assertEqual(book.notes("ann"), [("bob", 3), ("ann", 2)])
        self.assertEqual((book.fallen("ann"), book.whole_of("ann"), len(book)), (3, 5, 1))

    def test_amounts_of_sixty_figures(self):
        book = Book(["ann", "bob"]).put("ann", "bob", SIXTY_FIGURES).put("ann", "bob", SIXTY_FIGURES)
        self.assertEqual(book.whole_of("ann"), 2 * SIXTY_FIGURES)
        self.assertEqual(book.pile("ann"), [("bob", SIXTY_FIGURES)] * 2)

    def test_by_the_names_of_the_arguments(self):
        book = Book(["ann", "bob"]).put(amount=3, to="bob", who="ann")
        self.assertEqual((book.notes("ann"), book.notes("bob")), ([("bob", 3)], []))

    def test_sixty_notes_and_no_more(self):
        book = full_book()
        self.assertEqual((len(book), len(book.notes("eve"))), (60, 20))
        for who in book.persons():
            with self.assertRaises(Full) as caught:
                book.put(who, "ann", 1)
            self.assertEqual(caught.exception.many, 60)
        self.assertEqual(len(book), 60)

    def test_fallen_notes_count_as_put(self):
        book = full_book().give("ann", 10 ** 6)
        book = book.let_fall({"ann": book.whole_of("ann")})
        self.assertEqual(len(book), 40)
        with self.assertRaises(Full) as caught:
            book.put("ann", "ann", 1)
        self.assertEqual(caught.exception.many, 60)

    def test_giving_goes_on_in_a_full_book(self):
        self.assertEqual(full_book().give("ann", 2).cash("ann"), 2)

    def test_refused_what_is_no_amount(self):
        book = Book(["ann", "bob"])
        for thing in odd_things() + NO_AMOUNTS:
            with self.subTest(repr(thing)[:50]), self.assertRaises(NoAmount):
                book.put("ann", "bob", thing)
        self.assertEqual(book, Book(["ann", "bob"]))

    def test_the_order_of_refusals(self):
        book = full_book()
        for who, to, amount in [("joe", "max", 0), ("joe", "ann", 1), (["joe"], {}, None)]:
            with self.assertRaises(NoSuch) as caught:
                book.put(who, to, amount)
            self.assertEqual(caught.exception.who, who)
        for amount in [0, 1, None]:
            with self.assertRaises(NoSuch) as caught:
                book.put("ann", "max", amount)
            self.assertEqual(caught.exception.who, "max")
        with self.assertRaises(NoAmount):
            book.put("ann", "bob", 0)
        with self.assertRaises(Full):
            book.put("ann", "bob", 1)


class Give(unittest.TestCase):

    def test_another_book_is_told(self):
        elder = Book(["ann", "bob"])
        book = elder.give("bob", 3)
        self.assertIsInstance(book, Book)
        self.assertEqual((book.given("bob"), book.cash("bob"), book.given("ann"), book.cash("ann")), (3, 3, 0, 0))
        self.assertEqual((elder.given("bob"), elder.cash("bob")), (0, 0))

    def test_gifts_are_added(self):
        book = Book(["ann", "bob"]).give("bob", 3).give("ann", 1).give("bob", SIXTY_FIGURES)
        self.assertEqual((book.given("ann"), book.given("bob")), (1, SIXTY_FIGURES + 3))
        self.assertEqual(len(book), 0)

    def test_cash_is_spent_and_given_is_not(self):
        book = Book(["ann", "bob"]).give("ann", 5).put("ann", "bob", 3).let_fall({"ann": 2}).give("ann", 1)
        self.assertEqual((book.given("ann"), book.cash("ann")), (6, 4))
        self.assertEqual((book.given("bob"), book.cash("bob")), (0, 2))

    def test_by_the_names_of_the_arguments(self):
        self.assertEqual(Book(["ann"]).give(amount=3, who="ann").cash(who="ann"), 3)

    def test_refused_what_is_no_amount(self):
        book = Book(["ann", "bob"])
        for thing in odd_things() + NO_AMOUNTS:
            with self.subTest(repr(thing)[:50]), self.assertRaises(NoAmount):
                book.give("ann", thing)
        self.assertEqual(book, Book(["ann", "bob"]))

    def test_the_order_of_refusals(self):
        for who in ["joe", [], {}, None]:
            with self.assertRaises(NoSuch) as caught:
                Book(["ann", "bob"]).give(who, 0)
            self.assertEqual(caught.exception.who, who)


if __name__ == "__main__":
    unittest.main()
