"""Books as they are made, and who is in them."""

import unittest

from things import SIXTY_FIGURES, TWELVE, LikeAll, odd_things, whole_numbers

from ringclear.books import MOST, Book
from ringclear.errors import NoBook, NoSuch

ASKED_OF_ONE = ["cash", "fallen", "given", "pile", "notes", "whole_of", "fallen_to"]


class Made(unittest.TestCase):

    def refused(self, persons, what, who):
        with self.assertRaises(NoBook) as caught:
            Book(persons)
        self.assertEqual((caught.exception.what, caught.exception.who), (what, who))
        self.assertIsInstance(caught.exception.who, str)

    def test_most(self):
        self.assertEqual(MOST, 60)

    def test_of_one_to_twelve_names(self):
        for many in range(1, 13):
            book = Book(TWELVE[:many])
            with self.subTest(many):
                self.assertEqual(book.persons(), TWELVE[:many])
                self.assertEqual(len(book), 0)

    def test_nothing_is_there_at_first(self):
        book = Book(TWELVE)
        for who in TWELVE:
            told = [book.given(who), book.fallen(who), book.cash(who), book.whole_of(who), book.fallen_to(who)]
            self.assertEqual(told, [0, 0, 0, 0, 0])
            self.assertEqual((book.pile(who), book.notes(who)), ([], []))

    def test_by_the_name_of_the_argument(self):
        self.assertEqual(Book(persons=["bob", "ann"]).persons(), ["bob", "ann"])

    def test_the_list_may_be_changed_behind_the_call(self):
        handed = ["ann", "bob"]
        book = Book(handed)
        self.assertEqual(handed, ["ann", "bob"])
        handed[0] = "eve"
        handed.append("joe")
        self.assertEqual(book.persons(), ["ann", "bob"])
        self.assertIs(book.has("eve"), False)
        self.assertIs(book.has("joe"), False)
        handed.clear()
        self.assertEqual(book.put("ann", "bob", 1).persons(), ["ann", "bob"])

    def test_refused_what_is_no_list(self):
        for thing in odd_things() + whole_numbers() + ["ann", ("ann", "bob"), {"ann": "bob"}, Book(["ann"])]:
            if not isinstance(thing, list):
                with self.subTest(repr(thing)[:50]):
                    self.refused(thing, "persons", "persons")

    def test_refused_none_or_more_than_twelve(self):
        self.refused([], "persons", "persons")
        self.refused(TWELVE + ["m"], "persons", "persons")
        self.refused(TWELVE + ["a"], "persons", "persons")
        self.refused([None] * 13, "persons", "persons")
        self.refused(["ann"] * 40, "persons", "persons")

    def test_refused_a_thing_that_is_no_name(self):
        for thing in odd_things() + whole_numbers():
            with self.subTest(repr(thing)[:50]):
                self.refused([thing], "name", thing if isinstance(thing, str) else "0")
                self.refused(["x", "y", thing, "x"], "name", thing if isinstance(thing, str) else "2")

    def test_the_number_of_the_last_place(self):
        self.refused(TWELVE[:11] + [7], "name", "11")

    def test_refused_a_name_that_is_there_already(self):
        self.refused(["ann", "ann"], "again", "ann")
        self.refused(["ann", "bob", "ann"], "again", "ann")
        self.refused(TWELVE[:11] + ["l"], "again", "l")

    def test_the_first_that_is_refused_decides(self):
        self.refused(["ann", "bob", "bob", "Ann"], "again", "bob")
        self.refused(["ann", "Ann", "ann"], "name", "Ann")
        self.refused(["Ann", "Ann"], "name", "Ann")
        self.refused([3, 3], "name", "0")
        self.refused(["ann", "bob", "eve", "bob", "ann"], "again", "bob")
        self.refused(["ann", [], "ann", ""], "name", "1")


class Persons(unittest.TestCase):

    def setUp(self):
        self.book = Book(["ann", "bob"]).give("ann", 5).put("ann", "bob", 3)

    def none_of_them(self):
        return odd_things() + whole_numbers() + ["a", "an", "anna", "bo", "eve", Book(["ann"]), LikeAll()]

    def refused(self, thing, call):
        with self.subTest(repr(thing)[:50]), self.assertRaises(NoSuch) as caught:
            call()
        self.assertIs(caught.exception.who, thing)

    def test_has(self):
        self.assertIs(self.book.has("ann"), True)
        self.assertIs(self.book.has("bob"), True)
        self.assertIs(self.book.has(who="bob"), True)
        for thing in self.none_of_them():
            with self.subTest(repr(thing)[:50]):
                self.assertIs(self.book.has(thing), False)

    def test_asking_of_nobody_is_refused(self):
        for name in ASKED_OF_ONE:
            for thing in self.none_of_them():
                self.refused(thing, lambda: getattr(self.book, name)(thing))

    def test_asking_by_the_name_of_the_argument(self):
        told = [getattr(self.book, name)(who="ann") for name in ASKED_OF_ONE]
        self.assertEqual(told, [5, 0, 5, [("bob", 3)], [("bob", 3)], 3, 0])

    def test_putting_and_giving_of_nobody_is_refused(self):
        for thing in self.none_of_them():
            self.refused(thing, lambda: self.book.put(thing, "ann", 1))
            self.refused(thing, lambda: self.book.put("ann", thing, 1))
            self.refused(thing, lambda: self.book.give(thing, 1))

    def test_told_lists_are_the_askers_own(self):
        book = self.book.let_fall({"ann": 1})
        for ask in [book.persons, lambda: book.pile("ann"), lambda: book.notes("ann"), lambda: book.pile("bob")]:
            elder = list(ask())
            told = ask()
            self.assertIsNot(told, ask())
            told.append(("bob", SIXTY_FIGURES))
            self.assertEqual(ask(), elder)
            told.clear()
            self.assertEqual(ask(), elder)
        self.assertEqual((len(book), book.cash("ann"), book.whole_of("ann")), (1, 4, 3))


if __name__ == "__main__":
    unittest.main()
