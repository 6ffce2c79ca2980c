"""Which books are equal, and the keys of books."""

import itertools
import unittest

from things import SIXTY_FIGURES, odd_things, whole_numbers

from ringclear.books import Book


def unlike_books():
    """Books no two of which are equal."""
    pair = Book(["ann", "bob"])
    rich = pair.give("ann", 5).give("bob", 5)
    owing = rich.put("ann", "bob", 3)
    return [
        Book(["ann"]), Book(["bob"]), pair, Book(["bob", "ann"]), Book(["ann", "bob", "eve"]),
        pair.give("ann", 1), pair.give("bob", 1), pair.give("ann", 2), rich,
        pair.put("ann", "bob", 3), pair.put("bob", "ann", 3), pair.put("ann", "ann", 3), pair.put("ann", "bob", 4),
        owing, owing.let_fall({"ann": 1}), owing.let_fall({"ann": 3}),
        rich.put("ann", "bob", 2).put("ann", "bob", 1),
        rich.put("ann", "bob", 1).put("ann", "bob", 2),
        rich.put("ann", "bob", 2).put("ann", "ann", 1),
        rich.put("ann", "ann", 1).put("ann", "bob", 2),
        rich.put("ann", "bob", 2).put("bob", "ann", 1),
        rich.put("ann", "ann", 3).let_fall({"ann": 3}),
        rich.put("ann", "bob", 3).put("bob", "ann", 3).let_fall({"ann": 3, "bob": 3}),
        rich.put("ann", "bob", SIXTY_FIGURES), rich.give("ann", SIXTY_FIGURES),
    ]


def depth_of(key):
    """How deep tuples are nested in a key; an AssertionError where there is anything else in it."""
    if type(key) is tuple:
        return 1 + max([depth_of(part) for part in key], default=0)
    assert type(key) in (int, str), key
    return 0


class Equal(unittest.TestCase):

    def test_equal_where_all_parts_are(self):
        for one, other in zip(unlike_books(), unlike_books()):
            self.assertIsNot(one, other)
            self.assertIs(one == other, True)
            self.assertIs(one != other, False)
            self.assertEqual(one.key(), other.key())

    def test_unequal_where_one_part_is_not(self):
        for one, other in itertools.permutations(unlike_books(), 2):
            self.assertIs(one == other, False)
            self.assertIs(one != other, True)
            self.assertNotEqual(one.key(), other.key())

    def test_the_way_to_a_book_has_no_bearing(self):
        one = Book(["ann", "bob"]).give("ann", 3).put("ann", "bob", 2).put("bob", "ann", 1)
        other = Book(["ann", "bob"]).put("bob", "ann", 1).give("ann", 1).put("ann", "bob", 2).give("ann", 2)
        self.assertEqual(one, other)
        self.assertEqual(one.key(), other.key())
        self.assertEqual(one.let_fall({"ann": 2, "bob": 1}), other.let_fall({"ann": 1}).let_fall({"ann": 1, "bob": 1}))

    def test_a_book_and_anything_else_are_not_equal(self):
        book = Book(["ann"])
        for thing in odd_things() + whole_numbers() + ["ann", book.key(), book.persons()]:
            with self.subTest(repr(thing)[:50]):
                self.assertIs(book == thing, False)
                self.assertIs(thing == book, False)
                self.assertIs(book != thing, True)
                self.assertIs(thing != book, True)

    def test_a_book_and_a_thing_with_its_key_are_not_equal(self):
        class Alike:
            def key(self):
                return Book(["ann"]).key()

        self.assertIs(Book(["ann"]) == Alike(), False)
        self.assertIs(Book(["ann"]) != Alike(), True)


class Keys(unittest.TestCase):

    def test_made_of_whole_numbers_texts_and_tuples(self):
        for book in unlike_books():
            self.assertIs(type(book.key()), tuple)
            self.assertLessEqual(depth_of(book.key()), 8)

    def test_may_be_the_key_of_a_dict(self):
        table = {book.key(): number for number, book in enumerate(unlike_books())}
        self.assertEqual(len(table), len(unlike_books()))
        for number, book in enumerate(unlike_books()):
            self.assertEqual(table[book.key()], number)

    def test_a_full_book_has_a_key(self):
        book = Book(["ann", "bob"])
        for number in range(60):
            book = book.put("ann", "bob", SIXTY_FIGURES - number)
        self.assertLessEqual(depth_of(book.key()), 8)
        self.assertEqual({book.key(): 1}[book.key()], 1)


class Length(unittest.TestCase):

    def test_notes_that_are_left(self):
        book = Book(["ann", "bob"]).give("ann", 9).put("ann", "bob", 3).put("ann", "bob", 3).put("bob", "bob", 1)
        lengths = [len(book.let_fall({"ann": much})) for much in range(7)]
        self.assertEqual(lengths, [3, 3, 3, 2, 2, 2, 1])
        self.assertEqual(len(book.let_fall({"ann": 6, "bob": 1})), 0)


if __name__ == "__main__":
    unittest.main()
