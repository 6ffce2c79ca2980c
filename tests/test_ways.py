"""Books at a vector, and ways that lead there."""

import random
import unittest

from things import SIXTY_FIGURES, TWELVE, all_vectors, any_vector, book_by_seed, no_vectors, plain_ends, small_book
from things import some_steps, steps_from, times, turned, vector_of

from ringclear.books import Book
from ringclear.errors import Behind, NoVector, Short
from ringclear.settling import settled_book
from ringclear.steps import by_weaving, stepped
from ringclear.vectors import fallen_of, greatest_of, is_covered
from ringclear.ways import book_at, way_to


def two_piles():
    """Eve owes bob 3 and ann 4 and has 5, bob owes eve 2; the order is not that of the letters."""
    book = Book(["eve", "bob", "ann"]).give("eve", 5)
    return book.put("eve", "bob", 3).put("eve", "ann", 4).put("bob", "eve", 2)


def come_to_from(book):
    """The vectors of all books that weavings lead to."""
    seen = {book.key(): book}
    rest = [book]
    while rest:
        one = rest.pop()
        for other in [stepped(one, step) for step in steps_from(one)]:
            if other.key() not in seen:
                seen[other.key()] = other
                rest.append(other)
    return [vector_of(one) for one in seen.values()]


def first_short(book, vector):
    """The first person in order who would have less than 0, or None."""
    ends = plain_ends(book, vector)
    return next((who for who in book.persons() if ends[who] < 0), None)


def first_behind(book, vector):
    """The first person in order of whom more has fallen, or None."""
    return next((who for who in book.persons() if vector[who] < book.fallen(who)), None)


class Ways(unittest.TestCase):

    def same_but_for_fallen(self, book, other, vector):
        self.assertIsInstance(other, Book)
        self.assertEqual(other.persons(), book.persons())
        for who in book.persons():
            self.assertEqual(other.given(who), book.given(who))
            self.assertEqual(other.notes(who), book.notes(who))
            self.assertEqual(other.fallen(who), vector[who])

    def goes(self, book, vector):
        """A way to a vector that can be come to, with all that is promised of it."""
        elders = book.key(), list(vector.items())
        way = way_to(book, vector)
        self.assertIs(type(way), list)
        for step in way:
            self.assertIs(type(step), tuple)
        self.assertEqual(by_weaving(book, way), book_at(book, vector))
        self.assertLessEqual(len(way), (len(book) + len(book.persons()) + 1) * (len(book.persons()) + 1))
        self.assertIs(way == [], vector == vector_of(book))
        self.assertEqual((book.key(), list(vector.items())), elders)
        return way

    def refused(self, kind, call, **fields):
        with self.assertRaises(kind) as caught:
            call()
        self.assertIs(type(caught.exception), kind)
        self.assertEqual({name: getattr(caught.exception, name) for name in fields}, fields)


class At(Ways):

    def test_below_at_and_above_what_has_fallen(self):
        below = above = 0
        for seed in range(60):
            chance = random.Random(seed)
            book = some_steps(chance, small_book(chance), 2)
            for vector in all_vectors(book):
                if first_short(book, vector) is not None:
                    continue
                for one in [vector, turned(vector)]:
                    other = book_at(book, one)
                    self.same_but_for_fallen(book, other, vector)
                    self.assertEqual(other, book_at(settled_book(book), vector))
                below += any(vector[who] < book.fallen(who) for who in vector)
                above += any(vector[who] > book.fallen(who) for who in vector)
            self.assertEqual(book_at(book, fallen_of(book)), book)
            self.assertEqual(book_at(book, greatest_of(book)), settled_book(book))
        self.assertGreater(below, 50)
        self.assertGreater(above, 50)

    def test_by_hand(self):
        book = book_at(two_piles(), {"ann": 0, "bob": 1, "eve": 4})
        self.assertEqual([book.pile(who) for who in book.persons()], [[("ann", 3)], [("eve", 1)], []])
        self.assertEqual([book.cash(who) for who in book.persons()], [2, 2, 1])
        self.assertEqual(book_at(book, {"ann": 0, "bob": 0, "eve": 0}), two_piles())

    def test_sixty_figures(self):
        for seed in range(40):
            chance, book = book_by_seed(seed, 60)
            zeros = {who: 0 for who in book.persons()}
            self.same_but_for_fallen(book, book_at(book, zeros), zeros)
            self.assertEqual(book_at(book, greatest_of(book)), settled_book(book))
            self.assertEqual(book_at(book_at(book, zeros), fallen_of(book)), book)

    def test_the_first_in_the_order_of_persons_is_short(self):
        told = set()
        for seed in range(60):
            book = small_book(random.Random(seed), notes=5)
            for vector in all_vectors(book):
                who = first_short(book, vector)
                if who is not None:
                    self.refused(Short, lambda: book_at(book, vector), who=who)
                    self.refused(Short, lambda: book_at(book, turned(vector)), who=who)
                    told.add(book.persons().index(who))
        self.assertEqual(told, {0, 1, 2})

    def test_several_who_are_short(self):
        book = Book(["joe", "eve", "bob", "ann"]).put("ann", "joe", 3).put("bob", "joe", 3).put("eve", "joe", 3)
        for names in [["ann", "bob", "eve", "joe"], ["joe", "eve", "bob", "ann"], ["bob", "joe", "ann", "eve"]]:
            self.refused(Short, lambda: book_at(book, {who: 0 if who == "joe" else 1 for who in names}), who="eve")
            self.refused(Short, lambda: book_at(book, {who: 1 if who in "ann bob" else 0 for who in names}), who="bob")

    def test_no_vector_goes_ahead_of_short(self):
        for book in [two_piles(), Book(["ann"]).put("ann", "ann", 3).put("ann", "ann", 3), Book(TWELVE)]:
            for thing in no_vectors(book):
                if thing != {"ann": 1}:
                    with self.subTest(repr(thing)[:60]):
                        self.refused(NoVector, lambda: book_at(book, thing))
        self.refused(NoVector, lambda: book_at(two_piles(), {"eve": 7, "bob": 3, "ann": 0}))
        self.refused(Short, lambda: book_at(two_piles(), {"eve": 7, "bob": 1, "ann": 0}), who="eve")

    def test_what_is_handed_in_stays(self):
        book, vector = two_piles(), {"ann": 0, "bob": 1, "eve": 4}
        told = book_at(book, vector)
        vector["eve"] = 0
        self.assertEqual((told.fallen("eve"), book), (4, two_piles()))
        self.refused(Short, lambda: book_at(book, {"ann": 0, "bob": 2, "eve": 0}), who="bob")
        self.assertEqual(book, two_piles())

    def test_by_the_names_of_the_arguments(self):
        vector = {"ann": 0, "bob": 1, "eve": 4}
        self.assertEqual(book_at(vector=vector, book=two_piles()), book_at(two_piles(), vector))
        self.assertEqual(by_weaving(two_piles(), way_to(vector=vector, book=two_piles())), book_at(two_piles(), vector))


class To(Ways):

    def test_every_vector_that_can_be_come_to(self):
        steps = 0
        for seed in range(80):
            chance = random.Random(seed)
            book = some_steps(chance, small_book(chance), seed % 3)
            for vector in all_vectors(book):
                if first_short(book, vector) is None and first_behind(book, vector) is None:
                    steps += len(self.goes(book, vector))
                    self.assertEqual(by_weaving(book, way_to(book, turned(vector))), book_at(book, vector))
        self.assertGreater(steps, 200)

    def test_weavings_lead_to_just_all_of_these(self):
        for seed in range(40):
            book = small_book(random.Random(seed))
            come_to = come_to_from(book)
            for vector in all_vectors(book):
                self.assertIs(vector in come_to, is_covered(book, vector))
                if vector not in come_to:
                    self.refused(Short, lambda: way_to(book, vector), who=first_short(book, vector))

    def test_none_where_it_has_fallen_already(self):
        for seed in range(30):
            chance, book = book_by_seed(seed, 60)
            self.assertEqual(self.goes(book, fallen_of(book)), [])
            self.assertEqual(self.goes(settled_book(book), greatest_of(book)), [])

    def test_great_books_of_sixty_figures(self):
        for seed in range(60):
            chance, book = book_by_seed(seed, [60, 2][seed % 7 == 0])
            self.goes(book, greatest_of(book))
            for many in [1, 5, 25]:
                other = some_steps(chance, book, many)
                self.goes(book, fallen_of(other))
                self.goes(other, greatest_of(book))

    def test_drawn_vectors_within_what_is_covered(self):
        done = 0
        for seed in range(300):
            chance = random.Random(seed)
            book = small_book(chance, notes=12, amount=9)
            for _ in range(20):
                vector = any_vector(chance, book)
                if first_short(book, vector) is None:
                    self.goes(book, vector)
                    factor = 10 ** 57 + 3
                    self.goes(times(book, factor), {who: much * factor for who, much in vector.items()})
                    done += 1
        self.assertGreater(done, 300)

    def test_part_of_a_ring_of_sixty_figures_with_a_coin_in_it(self):
        for many in [1, 2, 12]:
            persons = TWELVE[:many]
            book = Book(persons).give("l", 1)
            for who, to in zip(persons, persons[1:] + persons[:1]):
                book = book.put(who, to, SIXTY_FIGURES)
            part = {who: SIXTY_FIGURES // 3 for who in persons}
            self.goes(book, part)
            self.goes(book, {**part, "l": part["l"] + 1})
            self.goes(book, {who: SIXTY_FIGURES for who in persons})
            self.goes(book_at(book, part), {who: SIXTY_FIGURES - 1 for who in persons})

    def test_rings_over_rings(self):
        for seed in range(12):
            chance = random.Random(seed)
            book = Book(TWELVE)
            for _ in range(5):
                ring = chance.sample(TWELVE, 12)
                for who, to in zip(ring, ring[1:] + ring[:1]):
                    book = book.put(who, to, chance.randint(1, SIXTY_FIGURES))
            for who in TWELVE:
                book = book.give(who, 1)
            self.goes(book, greatest_of(book))
            self.goes(book, fallen_of(some_steps(chance, book, 60)))


class Refused(Ways):

    def test_no_vector_ahead_of_short_and_behind(self):
        book = settled_book(two_piles())
        for thing in no_vectors(book):
            with self.subTest(repr(thing)[:60]):
                self.refused(NoVector, lambda: way_to(book, thing))
        self.refused(NoVector, lambda: way_to(book, {"eve": 8, "bob": 2, "ann": 0}))
        self.refused(NoVector, lambda: way_to(book, {"eve": 0, "bob": 2, "ann": 1}))

    def test_short_ahead_of_behind(self):
        book = settled_book(two_piles())
        self.assertEqual(vector_of(book), {"eve": 7, "bob": 2, "ann": 0})
        # More has fallen of eve, who stands first; but bob would be short.
        self.refused(Short, lambda: way_to(book, {"eve": 1, "bob": 2, "ann": 0}), who="bob")
        self.refused(Behind, lambda: way_to(book, {"eve": 6, "bob": 2, "ann": 0}), who="eve")
        self.refused(Behind, lambda: way_to(book, {"eve": 6, "bob": 1, "ann": 0}), who="eve")
        self.refused(Behind, lambda: way_to(book, {"ann": 0, "bob": 0, "eve": 0}), who="eve")
        # By this one eve would be short.
        self.refused(Short, lambda: way_to(book, {"eve": 7, "bob": 1, "ann": 0}), who="eve")
        book = book.give("eve", 1)
        self.refused(Behind, lambda: way_to(book, {"ann": 0, "bob": 1, "eve": 7}), who="bob")

    def test_all_vectors_of_small_books(self):
        kinds = {"short": 0, "behind": 0, "both": 0}
        for seed in range(80):
            chance = random.Random(seed)
            book = some_steps(chance, small_book(chance), 1 + seed % 4)
            elder = book.key()
            for vector in all_vectors(book):
                short, behind = first_short(book, vector), first_behind(book, vector)
                for one in [vector, turned(vector)]:
                    if short is not None:
                        self.refused(Short, lambda: way_to(book, one), who=short)
                    elif behind is not None:
                        self.refused(Behind, lambda: way_to(book, one), who=behind)
                kinds["short"] += short is not None and behind is None
                kinds["behind"] += short is None and behind is not None
                kinds["both"] += short is not None and behind is not None
            self.assertEqual(book.key(), elder)
        self.assertGreater(min(kinds.values()), 30)

    def test_told_ways_are_the_askers_own(self):
        book, vector = two_piles(), {"ann": 0, "bob": 1, "eve": 4}
        elder = list(way_to(book, vector))
        way_to(book, vector).clear()
        self.assertEqual(way_to(book, vector), elder)
        self.assertIsNot(way_to(book, vector), way_to(book, vector))
        way = way_to(book, vector)
        vector["eve"] = 0
        self.assertEqual(way, elder)


if __name__ == "__main__":
    unittest.main()
