"""Vectors: what might have fallen, and what each would then have."""

import random
import unittest

from things import SIXTY_FIGURES, TWELVE, all_vectors, any_vector, book_by_seed, no_vectors, plain_ends, small_book
from things import greatest_fallen, some_steps, times, turned, vector_of

from ringclear.books import Book
from ringclear.errors import BookError, NoVector
from ringclear.settling import settled_book, settling_steps
from ringclear.steps import stepped
from ringclear.vectors import ends_by, fallen_of, greatest_of, is_covered, joined_of


def two_piles():
    """Ann owes bob 3 and eve 4 and has 5, bob owes ann 2."""
    book = Book(["ann", "bob", "eve"]).give("ann", 5)
    return book.put("ann", "bob", 3).put("ann", "eve", 4).put("bob", "ann", 2)


def plainly_covered(book, vector):
    return min(plain_ends(book, vector).values()) >= 0


class Fallen(unittest.TestCase):

    def test_ahead_of_between_and_behind_steps(self):
        for seed in range(40):
            chance, book = book_by_seed(seed, chance_figures(seed))
            self.assertEqual(fallen_of(book), vector_of(book))
            for step in settling_steps(book):
                elder = fallen_of(book)
                book = stepped(book, step)
                self.assertEqual(fallen_of(book), vector_of(book))
                self.assertEqual(sum(fallen_of(book).values()) > sum(elder.values()), True)
            self.assertEqual(fallen_of(book), greatest_of(book))

    def test_by_hand(self):
        book = two_piles()
        self.assertEqual(fallen_of(book), {"ann": 0, "bob": 0, "eve": 0})
        self.assertEqual(fallen_of(stepped(book, ("pay", "ann", 2))), {"ann": 2, "bob": 0, "eve": 0})
        self.assertEqual(fallen_of(stepped(book, ("clear", "bob", 1))), {"ann": 1, "bob": 1, "eve": 0})
        self.assertEqual(fallen_of(settled_book(book)), {"ann": 7, "bob": 2, "eve": 0})
        self.assertEqual(list(fallen_of(book)), ["ann", "bob", "eve"])

    def test_it_is_a_covered_vector(self):
        for seed in range(60):
            chance, book = book_by_seed(seed, chance_figures(seed))
            book = some_steps(chance, book, seed % 5)
            self.assertIs(is_covered(book, fallen_of(book)), True)
            self.assertEqual(ends_by(book, fallen_of(book)), {who: book.cash(who) for who in book.persons()})


def chance_figures(seed):
    """Small amounts for some seeds, great ones for others."""
    return [1, 3, 60][seed % 3]


class Ends(unittest.TestCase):

    def told(self, book, vector):
        """The ends by a vector, which is asked by both orders of its keys and stays as it is."""
        for one in [vector, turned(vector)]:
            elder = list(one.items())
            ends = ends_by(book, one)
            self.assertIs(type(ends), dict)
            self.assertEqual(list(ends), book.persons())
            self.assertEqual([type(much) for much in ends.values()], [int] * len(ends))
            self.assertIs(is_covered(book, one), min(ends.values()) >= 0)
            self.assertEqual(list(one.items()), elder)
        return ends

    def test_by_hand(self):
        book = two_piles()
        self.assertEqual(self.told(book, {"ann": 0, "bob": 0, "eve": 0}), {"ann": 5, "bob": 0, "eve": 0})
        self.assertEqual(self.told(book, {"ann": 4, "bob": 1, "eve": 0}), {"ann": 2, "bob": 2, "eve": 1})
        self.assertEqual(self.told(book, {"ann": 6, "bob": 0, "eve": 0}), {"ann": -1, "bob": 3, "eve": 3})
        self.assertEqual(self.told(book, {"ann": 0, "bob": 2, "eve": 0}), {"ann": 7, "bob": -2, "eve": 0})
        self.assertEqual(self.told(book, {"ann": 7, "bob": 2, "eve": 0}), {"ann": 0, "bob": 1, "eve": 4})

    def test_what_has_fallen_has_no_bearing(self):
        book = two_piles()
        for vector in all_vectors(book):
            for other in [stepped(book, ("pay", "ann", 2)), settled_book(book)]:
                self.assertEqual(self.told(other, vector), self.told(book, vector))

    def test_all_vectors_of_small_books(self):
        covered = uncovered = 0
        for seed in range(60):
            book = small_book(random.Random(seed))
            for vector in all_vectors(book):
                self.assertEqual(self.told(book, vector), plain_ends(book, vector))
                covered += is_covered(book, vector)
                uncovered += not is_covered(book, vector)
        self.assertGreater(covered, 100)
        self.assertGreater(uncovered, 100)

    def test_of_nothing_of_all_and_of_drawn_numbers(self):
        for seed in range(60):
            chance, book = book_by_seed(seed, 2)
            zeros = {who: 0 for who in book.persons()}
            wholes = {who: book.whole_of(who) for who in book.persons()}
            self.assertEqual(self.told(book, zeros), {who: book.given(who) for who in book.persons()})
            for vector in [wholes] + [any_vector(chance, book) for _ in range(5)]:
                self.assertEqual(self.told(book, vector), plain_ends(book, vector))

    def test_one_more_and_one_less_than_what_is_covered(self):
        less = 0
        for seed in range(60):
            chance, book = book_by_seed(seed, chance_figures(seed))
            greatest = greatest_of(book)
            self.assertIs(is_covered(book, greatest), True)
            for who in book.persons():
                if greatest[who] < book.whole_of(who):
                    self.assertIs(is_covered(book, {**greatest, who: greatest[who] + 1}), False)
                if greatest[who] > 0:
                    ends = self.told(book, {**greatest, who: greatest[who] - 1})
                    elder = ends_by(book, greatest)
                    changed = [one for one in ends if ends[one] != elder[one]]
                    self.assertIn(len(changed), [0, 2])
                    if changed:
                        self.assertEqual(ends[who], elder[who] + 1)
                    less += min(ends.values()) < 0
        self.assertGreater(less, 20)

    def test_sixty_figures(self):
        for seed in range(30):
            chance, book = book_by_seed(seed, 2)
            factor = 10 ** 57 + 3
            great = times(book, factor)
            for vector in [any_vector(chance, book) for _ in range(4)]:
                told = self.told(great, {who: much * factor for who, much in vector.items()})
                self.assertEqual(told, {who: much * factor for who, much in plain_ends(book, vector).items()})

    def test_a_coin_in_sixty_figures(self):
        book = Book(["ann", "bob"]).give("ann", SIXTY_FIGURES).put("ann", "bob", SIXTY_FIGURES).put("ann", "bob", 2)
        self.assertEqual(self.told(book, {"ann": SIXTY_FIGURES + 1, "bob": 0}), {"ann": -1, "bob": SIXTY_FIGURES + 1})
        self.assertIs(is_covered(book, {"ann": SIXTY_FIGURES, "bob": 0}), True)
        self.assertIs(is_covered(book, {"ann": SIXTY_FIGURES + 1, "bob": 0}), False)


class Greatest(unittest.TestCase):

    def test_it_is_what_has_fallen_in_the_end_whatever_was_done_ahead(self):
        for seed in range(60):
            chance, book = book_by_seed(seed, chance_figures(seed))
            greatest = greatest_of(book)
            self.assertEqual(greatest, vector_of(settled_book(book)))
            self.assertEqual(list(greatest), book.persons())
            for many in [1, 4, 20]:
                self.assertEqual(greatest_of(some_steps(chance, book, many)), greatest)
            self.assertEqual(greatest_of(settled_book(book)), greatest)
            if seed % 3 == 0:
                self.assertEqual(greatest, greatest_fallen(book))

    def test_no_covered_vector_has_more_of_anybody(self):
        for seed in range(80):
            book = small_book(random.Random(seed), notes=5)
            covered = [vector for vector in all_vectors(book) if plainly_covered(book, vector)]
            most = {who: max(vector[who] for vector in covered) for who in book.persons()}
            self.assertEqual(greatest_of(book), most)
            self.assertIn(most, covered)


class Joined(unittest.TestCase):

    def test_person_by_person_the_greater_number(self):
        for seed in range(60):
            chance, book = book_by_seed(seed, chance_figures(seed))
            one, other = any_vector(chance, book), any_vector(chance, book)
            elders = dict(one), dict(other)
            told = joined_of(book, one, turned(other))
            self.assertEqual(told, {who: max(one[who], other[who]) for who in book.persons()})
            self.assertEqual((one, other), elders)
            self.assertEqual(joined_of(book, other, one), told)
            self.assertEqual(joined_of(book, one, one), one)

    def test_it_is_covered_where_both_are(self):
        both = 0
        for seed in range(40):
            book = small_book(random.Random(seed), notes=5)
            covered = [vector for vector in all_vectors(book) if is_covered(book, vector)]
            for one in covered:
                for other in covered:
                    told = joined_of(book, one, other)
                    self.assertIs(is_covered(book, told), True)
                    both += told not in [one, other]
        self.assertGreater(both, 50)

    def test_the_lesser_numbers_need_not_be_covered(self):
        book = Book(["ann", "bob", "eve"]).give("ann", 1).give("eve", 1)
        book = book.put("ann", "bob", 1).put("eve", "bob", 1).put("bob", "ann", 1)
        one, other = {"ann": 1, "bob": 1, "eve": 0}, {"ann": 0, "bob": 1, "eve": 1}
        self.assertEqual([is_covered(book, one), is_covered(book, other)], [True, True])
        self.assertEqual(joined_of(book, one, other), {"ann": 1, "bob": 1, "eve": 1})
        self.assertIs(is_covered(book, {"ann": 0, "bob": 1, "eve": 0}), False)

    def test_of_vectors_that_are_not_covered(self):
        book = two_piles()
        told = joined_of(book, {"ann": 7, "bob": 0, "eve": 0}, {"ann": 0, "bob": 2, "eve": 0})
        self.assertEqual(told, {"ann": 7, "bob": 2, "eve": 0})
        self.assertEqual(joined_of(book, {"ann": 0, "bob": 1, "eve": 0}, {"ann": 0, "bob": 2, "eve": 0})["ann"], 0)


class Refused(unittest.TestCase):

    def refused(self, call):
        with self.assertRaises(NoVector) as caught:
            call()
        self.assertIs(type(caught.exception), NoVector)
        self.assertIsInstance(caught.exception, BookError)

    def test_what_is_no_vector(self):
        for book in [two_piles(), settled_book(two_piles()), Book(["ann"]), Book(TWELVE)]:
            elder = book.key()
            good = fallen_of(book)
            for thing in no_vectors(book):
                with self.subTest(repr(thing)[:60]):
                    self.refused(lambda: ends_by(book, thing))
                    self.refused(lambda: is_covered(book, thing))
                    self.refused(lambda: joined_of(book, thing, good))
                    self.refused(lambda: joined_of(book, good, thing))
                    self.refused(lambda: joined_of(book, thing, thing))
            self.assertEqual(book.key(), elder)

    def test_at_the_edge_of_what_all_notes_come_to(self):
        book = two_piles()
        good = {"ann": 7, "bob": 2, "eve": 0}
        self.assertIs(is_covered(book, good), True)
        for who, much in [("ann", 8), ("bob", 3), ("eve", 1), ("ann", -1), ("bob", -1), ("eve", -1), ("eve", False)]:
            self.refused(lambda: is_covered(book, {**good, who: much}))

    def test_what_has_fallen_already_does_not_make_it_less(self):
        book = settled_book(two_piles())
        self.assertIs(is_covered(book, {"ann": 7, "bob": 2, "eve": 0}), True)
        self.refused(lambda: ends_by(book, {"ann": 8, "bob": 2, "eve": 0}))


class Own(unittest.TestCase):

    def test_told_dicts_are_the_askers_own(self):
        book = two_piles()
        one = {"ann": 1, "bob": 0, "eve": 0}
        asks = [
            lambda: fallen_of(book), lambda: greatest_of(book), lambda: ends_by(book, one),
            lambda: joined_of(book, one, one), lambda: joined_of(book, greatest_of(book), greatest_of(book)),
        ]
        for ask in asks:
            elder = dict(ask())
            told = ask()
            told.clear()
            told["ann"] = 99
            self.assertEqual(ask(), elder)
            self.assertIsNot(ask(), ask())
            self.assertIsNot(ask(), one)
        self.assertEqual((one, book), ({"ann": 1, "bob": 0, "eve": 0}, two_piles()))

    def test_by_the_names_of_the_arguments(self):
        book = two_piles()
        one, other = {"ann": 1, "bob": 0, "eve": 0}, {"ann": 0, "bob": 1, "eve": 0}
        self.assertEqual(fallen_of(book=book), fallen_of(book))
        self.assertEqual(greatest_of(book=book), greatest_of(book))
        self.assertEqual(ends_by(vector=one, book=book), ends_by(book, one))
        self.assertIs(is_covered(vector=one, book=book), True)
        self.assertEqual(joined_of(other=other, one=one, book=book), {"ann": 1, "bob": 1, "eve": 0})
        with self.assertRaises(NoVector):
            joined_of(book=book, one={}, other=other)


if __name__ == "__main__":
    unittest.main()
