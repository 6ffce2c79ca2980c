"""Settled books, and the weavings that lead to them."""

import random
import unittest

from things import SIXTY_FIGURES, TWELVE, any_book, fallen_book, greatest_fallen, some_steps, steps_from, times

from ringclear.books import Book
from ringclear.errors import NoRing, TooMuch
from ringclear.rings import all_rings
from ringclear.settling import is_settled, settled_book, settling_steps
from ringclear.steps import by_weaving, most_of, stepped


def ends_of(book):
    """All books that rows of steps, however chosen, end with."""
    seen = {book.key()}
    ends = {}
    rest = [book]
    while rest:
        one = rest.pop()
        steps = steps_from(one)
        if not steps:
            ends[one.key()] = one
        for other in [stepped(one, step) for step in steps]:
            if other.key() not in seen:
                seen.add(other.key())
                rest.append(other)
    return list(ends.values())


def books_by_chance(many, figures):
    """Books of one to twelve persons and up to sixty notes, every second one with something fallen."""
    for seed in range(many):
        chance = random.Random(seed)
        persons = chance.sample(TWELVE, chance.randint(1, 12))
        book = any_book(chance, persons, chance.choice([1, 5, 12, 30, 60]), figures, cash=seed % 3 > 0)
        yield fallen_book(chance, book) if seed % 2 else book


class Settling(unittest.TestCase):

    def settles(self, book):
        """Whether all that is told of the end of a book fits together; the settled book."""
        elder = book.key()
        end = settled_book(book)
        self.assertIsInstance(end, Book)
        self.assertIs(is_settled(end), True)
        self.assertEqual(all_rings(end), [])
        self.assertEqual([most_of(end, who) for who in end.persons()], [0] * len(end.persons()))
        steps = settling_steps(book)
        self.assertIs(type(steps), list)
        self.assertEqual(by_weaving(book, steps), end)
        self.assertLessEqual(len(steps), (len(book) + 1) * (len(book.persons()) + 1))
        self.assertIs(is_settled(book), steps == [])
        self.assertIs(is_settled(book), end == book)
        self.assertEqual((settled_book(end), settling_steps(end)), (end, []))
        self.assertEqual(book.key(), elder)
        return end


class Settled(Settling):

    def test_nobody_can_pay_and_there_is_no_ring(self):
        book = Book(["ann", "bob"])
        self.assertIs(is_settled(book), True)
        self.assertIs(is_settled(book.give("ann", 3)), True)
        self.assertIs(is_settled(book.put("ann", "bob", 3)), True)
        self.assertIs(is_settled(book.put("ann", "bob", 3).give("bob", 3)), True)
        self.assertIs(is_settled(book.put("ann", "bob", 3).give("ann", 1)), False)
        self.assertIs(is_settled(book.put("ann", "ann", 3)), False)
        self.assertIs(is_settled(book.put("ann", "bob", 3).put("bob", "ann", 3)), False)
        self.assertIs(is_settled(book.put("bob", "ann", 3).give("bob", 3).let_fall({"bob": 3})), True)

    def test_what_is_settled_settles_to_itself(self):
        for book in [Book(["ann"]), Book(TWELVE).give("a", 3), Book(["ann", "bob"]).put("ann", "bob", 3).give("bob", 9)]:
            self.assertEqual(self.settles(book), book)
            self.assertEqual(settling_steps(book), [])

    def test_by_hand(self):
        book = Book(["ann", "bob", "eve"]).put("ann", "bob", 6).put("bob", "eve", 5).put("eve", "ann", 4)
        end = self.settles(book.put("eve", "bob", 1).give("ann", 1))
        # The ring of 4 falls away, ann pays 1, bob pays it on, eve pays it back, and bob has it.
        self.assertEqual([end.fallen(who) for who in end.persons()], [5, 5, 5])
        self.assertEqual([end.cash(who) for who in end.persons()], [0, 1, 0])
        self.assertEqual([end.pile(who) for who in end.persons()], [[("bob", 1)], [], []])

    def test_cash_that_is_paid_on_from_above_alone(self):
        book = Book(["ann", "bob", "eve"]).give("ann", 5).put("ann", "bob", 9).put("ann", "eve", 1).put("bob", "eve", 3)
        end = self.settles(book)
        self.assertEqual([end.pile(who) for who in end.persons()], [[("bob", 4), ("eve", 1)], [], []])
        self.assertEqual([end.cash(who) for who in end.persons()], [0, 2, 3])

    def test_the_greatest_that_can_fall(self):
        for number, book in enumerate(books_by_chance(150, 1)):
            with self.subTest(number):
                end = self.settles(book)
                self.assertEqual({who: end.fallen(who) for who in end.persons()}, greatest_fallen(book))
                self.assertEqual([end.notes(who) for who in end.persons()], [book.notes(who) for who in book.persons()])
                self.assertEqual([end.given(who) for who in end.persons()], [book.given(who) for who in book.persons()])

    def test_told_lists_are_the_askers_own(self):
        book = Book(["ann", "bob"]).give("ann", 5).put("ann", "bob", 3).put("bob", "bob", 1)
        steps = settling_steps(book)
        elder = list(steps)
        steps.clear()
        self.assertIsNot(settling_steps(book), settling_steps(book))
        self.assertEqual(settling_steps(book), elder)
        for step in elder:
            self.assertIs(type(step), tuple)

    def test_by_the_name_of_the_argument(self):
        book = Book(["ann"]).put("ann", "ann", 3)
        self.assertEqual(settled_book(book=book), book.let_fall({"ann": 3}))
        self.assertEqual(settling_steps(book=book), [("clear", "ann", 3)])
        self.assertIs(is_settled(book=book), False)


class OneEnd(Settling):

    def test_whatever_steps_are_done_all_ends_are_the_same(self):
        several = 0
        for seed in range(120):
            chance = random.Random(seed)
            persons = ["ann", "bob", "eve"][:chance.choice([1, 2, 3, 3])]
            book = Book(persons)
            for _ in range(chance.randint(1, 5)):
                book = book.put(chance.choice(persons), chance.choice(persons), chance.randint(1, 3))
            for _ in range(chance.randint(0, 2)):
                book = book.give(chance.choice(persons), chance.randint(1, 2))
            with self.subTest(seed):
                self.assertEqual(ends_of(book), [self.settles(book)])
                several += len(steps_from(book)) > 1
        self.assertGreater(several, 40)

    def test_whatever_steps_are_done_first(self):
        for number, book in enumerate(books_by_chance(80, 60)):
            chance = random.Random(number)
            with self.subTest(number):
                end = settled_book(book)
                for many in [1, 3, 10, 30]:
                    self.assertEqual(settled_book(some_steps(chance, book, many)), end)

    def test_before_or_behind_whichever_puts_and_gifts(self):
        for seed in range(80):
            chance = random.Random(seed)
            persons = chance.sample(TWELVE, chance.randint(1, 6))
            plain = woven = Book(persons)
            for _ in range(chance.randint(1, 25)):
                who, to, amount = chance.choice(persons), chance.choice(persons), chance.randint(1, 9)
                if chance.random() < 0.7:
                    plain, woven = plain.put(who, to, amount), woven.put(who, to, amount)
                else:
                    plain, woven = plain.give(who, amount), woven.give(who, amount)
                woven = some_steps(chance, woven, chance.randint(0, 3))
                if chance.random() < 0.1:
                    woven = settled_book(woven)
            with self.subTest(seed):
                self.assertEqual(settled_book(plain), self.settles(woven))

    def test_the_order_of_puts_of_unlike_persons_and_of_gifts(self):
        for seed in range(40):
            chance = random.Random(seed)
            book = any_book(chance, chance.sample(TWELVE, chance.randint(2, 8)), chance.randint(2, 30), 3)
            other = Book(book.persons())
            rest = {who: book.notes(who) for who in book.persons()}
            while any(rest.values()):
                who = chance.choice([one for one in rest if rest[one]])
                other = other.put(who, *rest[who].pop(0))
            for who in chance.sample(book.persons(), len(book.persons())):
                while other.given(who) < book.given(who):
                    other = other.give(who, chance.randint(1, book.given(who) - other.given(who)))
            self.assertEqual(settled_book(other), settled_book(book))


class Bounds(Settling):

    def test_books_by_chance_of_sixty_figures(self):
        for number, book in enumerate(books_by_chance(150, 60)):
            with self.subTest(number):
                self.settles(book)

    def test_amounts_do_not_count(self):
        for number, book in enumerate(books_by_chance(60, 2)):
            factor = 10 ** 57 + 1
            great = times(book, factor)
            with self.subTest(number):
                self.assertEqual(settled_book(great), times(settled_book(book), factor))
                small = [(word, who, amount * factor) for word, who, amount in settling_steps(book)]
                self.assertEqual(settling_steps(great), small)

    def test_one_coin_in_a_great_ring(self):
        for many in range(1, 13):
            persons = TWELVE[:many]
            book = Book(persons).give("l", 1)
            for who, to in zip(persons, persons[1:] + persons[:1]):
                book = book.put(who, to, SIXTY_FIGURES)
            end = self.settles(book)
            self.assertEqual((len(end), end.cash("l")), (0, 1))

    def test_rings_over_rings_with_a_coin_each(self):
        for seed in range(12):
            chance = random.Random(seed)
            book = Book(TWELVE)
            for _ in range(5):
                ring = chance.sample(TWELVE, 12)
                for who, to in zip(ring, ring[1:] + ring[:1]):
                    book = book.put(who, to, chance.randint(1, SIXTY_FIGURES))
            for who in TWELVE:
                book = book.give(who, 1)
            self.settles(book)

    def test_each_pays_once_where_no_note_goes(self):
        # The bound rests on this: between two notes that have gone there are fewer pays than persons.
        for order in [TWELVE, TWELVE[::-1], TWELVE[::2] + TWELVE[1::2]]:
            book = Book(TWELVE)
            for who, to in zip(order, order[1:]):
                book = book.put(who, to, SIXTY_FIGURES).give(who, 3)
            self.assertEqual([who for _, who, _ in settling_steps(book)], order[:-1])
            self.assertEqual(self.settles(book).cash(order[-1]), 33)

    def test_long_trails_of_many_notes(self):
        for order in [TWELVE, TWELVE[::-1], TWELVE[::2] + TWELVE[1::2]]:
            for seed in range(4):
                chance = random.Random(seed)
                book = Book(TWELVE)
                for who, to in zip(order, order[1:]):
                    book = book.give(who, any_of(chance))
                    for _ in range(5):
                        book = book.put(who, to, any_of(chance))
                self.settles(book)


def any_of(chance):
    """An amount of sixty figures at most, small or great."""
    return chance.randint(1, 10 ** chance.choice([1, 2, 30, 59, 60]) - 1)


class Refusals(Settling):

    def test_no_step_can_be_done_where_it_is_settled(self):
        for book in books_by_chance(30, 60):
            end = settled_book(book)
            for who in end.persons():
                with self.assertRaises(TooMuch) as caught:
                    stepped(end, ("pay", who, 1))
                self.assertEqual((caught.exception.who, caught.exception.most), (who, 0))
                with self.assertRaises(NoRing) as caught:
                    stepped(end, ("clear", who, 1))
                self.assertEqual(caught.exception.who, who)


if __name__ == "__main__":
    unittest.main()
