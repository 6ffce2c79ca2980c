"""What persons owe, are owed and lack, and where they are stuck."""

import random
import unittest

from things import SIXTY_FIGURES, TWELVE, any_book, book_by_seed, no_persons, small_book, some_steps, times

from ringclear.books import Book
from ringclear.errors import NoSuch
from ringclear.lacks import all_lacks, all_stuck, is_paid, lack_of, owed_to, owes_of
from ringclear.rings import ring_of, trail_of
from ringclear.settling import settled_book, settling_steps
from ringclear.steps import stepped


def three_piles():
    """Eve owes bob 6 and ann 2 and has 3, bob owes ann 5, ann owes eve 1 and has 1."""
    book = Book(["eve", "bob", "ann"]).give("eve", 3).give("ann", 1)
    return book.put("eve", "bob", 6).put("eve", "ann", 2).put("bob", "ann", 5).put("ann", "eve", 1)


def owes_plainly(book, who):
    return book.whole_of(who) - book.fallen(who)


def owed_plainly(book, who):
    total = 0
    for other in book.persons():
        total += sum(amount for to, amount in book.notes(other) if to == who)
    return total - book.fallen_to(who)


def saldo(book, who):
    """What a person has and is owed, less what they owe."""
    return book.given(who) + owed_plainly(book, who) + book.fallen_to(who) - book.whole_of(who)


def figures_by(seed):
    return [1, 3, 60][seed % 3]


class Owed(unittest.TestCase):

    def test_by_hand(self):
        book = three_piles()
        self.assertEqual([owes_of(book, who) for who in book.persons()], [8, 5, 1])
        self.assertEqual([owed_to(book, who) for who in book.persons()], [1, 6, 7])
        self.assertEqual([lack_of(book, who) for who in book.persons()], [4, 0, 0])
        self.assertEqual(all_lacks(book), {"eve": 4, "bob": 0, "ann": 0})
        self.assertIs(is_paid(book), False)
        book = stepped(book, ("pay", "eve", 2))
        self.assertEqual([owes_of(book, who) for who in book.persons()], [6, 5, 1])
        self.assertEqual([owed_to(book, who) for who in book.persons()], [1, 4, 7])
        self.assertEqual(all_lacks(book), {"eve": 4, "bob": 0, "ann": 0})

    def test_books_by_chance(self):
        for seed in range(90):
            chance, book = book_by_seed(seed, figures_by(seed))
            for one in [book, some_steps(chance, book, 5), settled_book(book)]:
                lacks = {who: max(0, -saldo(one, who)) for who in one.persons()}
                for who in one.persons():
                    self.assertEqual(owes_of(one, who), owes_plainly(one, who))
                    self.assertEqual(owed_to(one, who), owed_plainly(one, who))
                    self.assertEqual(lack_of(one, who), lacks[who])
                    self.assertEqual(lacks[who], max(0, owes_of(one, who) - owed_to(one, who) - one.cash(who)))
                self.assertEqual(all_lacks(one), lacks)
                self.assertEqual(list(all_lacks(one)), one.persons())
                self.assertIs(is_paid(one), max(lacks.values()) == 0)

    def test_of_nothing_and_of_oneself(self):
        book = Book(["ann", "bob"])
        self.assertEqual((owes_of(book, "ann"), owed_to(book, "ann"), lack_of(book, "ann")), (0, 0, 0))
        self.assertIs(is_paid(book), True)
        book = book.put("ann", "ann", SIXTY_FIGURES)
        self.assertEqual((owes_of(book, "ann"), owed_to(book, "ann"), lack_of(book, "ann")), (SIXTY_FIGURES,) * 2 + (0,))
        self.assertIs(is_paid(book), True)
        book = book.put("ann", "bob", 1)
        self.assertEqual((lack_of(book, "ann"), lack_of(book, "bob")), (1, 0))
        self.assertIs(is_paid(book), False)
        self.assertIs(is_paid(book.give("bob", 9)), False)
        self.assertIs(is_paid(book.give("ann", 1)), True)

    def test_a_name_that_is_a_part_of_another_one(self):
        book = Book(["ann", "an", "a"]).put("ann", "an", 2).put("ann", "a", 3).put("an", "ann", 4)
        self.assertEqual([owed_to(book, who) for who in book.persons()], [4, 2, 3])

    def test_to_the_last_coin(self):
        book = Book(["ann", "bob"]).put("ann", "bob", SIXTY_FIGURES).put("bob", "ann", SIXTY_FIGURES - 2)
        for gift, lack in [(0, 2), (1, 1), (2, 0), (3, 0)]:
            other = book.give("ann", gift) if gift else book
            self.assertEqual(all_lacks(other), {"ann": lack, "bob": 0})
            self.assertIs(is_paid(other), lack == 0)

    def test_no_such_person(self):
        for thing in no_persons():
            for ask in [owes_of, owed_to, lack_of]:
                with self.assertRaises(NoSuch) as caught:
                    ask(three_piles(), thing)
                self.assertIs(type(caught.exception), NoSuch)
                self.assertIs(caught.exception.who, thing)


class Steps(unittest.TestCase):

    def test_no_step_changes_what_anybody_lacks(self):
        for seed in range(60):
            chance, book = book_by_seed(seed, figures_by(seed))
            lacks = all_lacks(book)
            rest = {who: book.cash(who) + owed_to(book, who) - owes_of(book, who) for who in book.persons()}
            one = some_steps(chance, book, 10)
            for step in settling_steps(one) + [None]:
                self.assertEqual(all_lacks(one), lacks)
                for who in rest:
                    self.assertEqual(one.cash(who) + owed_to(one, who) - owes_of(one, who), rest[who])
                one = one if step is None else stepped(one, step)


class Paid(unittest.TestCase):

    def test_all_is_paid_just_where_nobody_lacks(self):
        counts = {True: 0, False: 0}
        for seed in range(300):
            chance = random.Random(seed)
            book = small_book(chance, notes=8) if seed % 2 else some_steps(chance, small_book(chance), 2)
            end = settled_book(book)
            self.assertIs(is_paid(book), len(end) == 0)
            self.assertIs(is_paid(book), max(all_lacks(book).values()) == 0)
            self.assertIs(is_paid(book), all_stuck(book) == [])
            counts[is_paid(book)] += 1
        self.assertGreater(min(counts.values()), 40)

    def test_given_what_they_lack_all_is_paid(self):
        for seed in range(90):
            chance, book = book_by_seed(seed, figures_by(seed))
            lacks = all_lacks(book)
            short = [who for who in book.persons() if lacks[who] > 0]
            full = book
            for who in short:
                full = full.give(who, lacks[who])
            self.assertIs(is_paid(full), True)
            end = settled_book(full)
            self.assertEqual((len(end), all_stuck(full)), (0, []))
            for who in book.persons():
                had = full.cash(who) + owed_to(full, who) - owes_of(full, who)
                self.assertEqual(end.cash(who), had)
                self.assertEqual(end.pile(who), [])

    def test_one_coin_less_and_it_is_not(self):
        for seed in range(60):
            chance, book = book_by_seed(seed, figures_by(seed))
            lacks = all_lacks(book)
            for left_out in [who for who in book.persons() if lacks[who] > 0][:3]:
                less = book
                for who in book.persons():
                    gift = lacks[who] - (who == left_out)
                    # To another person it is given in plenty: it does not help.
                    gift += SIXTY_FIGURES if lacks[who] == 0 else 0
                    less = less.give(who, gift) if gift > 0 else less
                self.assertEqual(all_lacks(less)[left_out], 1)
                self.assertIs(is_paid(less), False)
                self.assertGreater(len(settled_book(less)), 0)

    def test_in_whatever_order_the_notes_lie(self):
        for seed in range(40):
            chance = random.Random(seed)
            book = any_book(chance, chance.sample(TWELVE, chance.randint(2, 6)), chance.randint(2, 20), 2)
            for who, lack in all_lacks(book).items():
                book = book.give(who, lack) if lack > 0 and seed % 4 else book
            for _ in range(4):
                other = Book(book.persons())
                for who in book.persons():
                    other = other.give(who, book.given(who)) if book.given(who) else other
                    for to, amount in chance.sample(book.notes(who), len(book.notes(who))):
                        other = other.put(who, to, amount)
                self.assertEqual(all_lacks(other), all_lacks(book))
                self.assertIs(len(settled_book(other)) == 0, is_paid(book))


class Stuck(unittest.TestCase):

    def test_by_hand(self):
        self.assertEqual(all_stuck(three_piles()), [("eve", "ann"), ("bob", "ann")])
        book = Book(["joe", "ann", "eve", "bob"]).put("ann", "bob", 3).put("bob", "joe", 2).put("eve", "bob", 1)
        self.assertEqual(all_stuck(book), [("ann", "joe"), ("eve", "joe"), ("bob", "joe")])
        self.assertEqual(all_stuck(book.give("bob", 2)), [("ann", "bob"), ("eve", "bob")])
        self.assertEqual(all_stuck(book.give("bob", 2).give("ann", 3)), [("eve", "bob")])
        self.assertEqual(all_stuck(book.give("bob", 2).give("ann", 3).give("eve", 1)), [])
        self.assertEqual(all_stuck(Book(["ann"]).put("ann", "ann", 2)), [])

    def test_a_ring_that_falls_away_is_not_stuck(self):
        book = Book(["ann", "bob", "eve"]).put("ann", "bob", 3).put("bob", "ann", 5)
        self.assertEqual(all_stuck(book), [("bob", "ann")])
        self.assertEqual(all_stuck(book.put("ann", "eve", 2)), [("ann", "eve"), ("bob", "eve")])

    def test_of_settled_books_and_of_others(self):
        many = set()
        for seed in range(90):
            chance, book = book_by_seed(seed, figures_by(seed))
            end = settled_book(book)
            stuck = all_stuck(book)
            self.assertIs(type(stuck), list)
            self.assertEqual([who for who, at in stuck], [who for who in book.persons() if end.pile(who) != []])
            for one in stuck:
                self.assertEqual((type(one), len(one)), (tuple, 2))
                self.assertEqual(one[1], trail_of(end, one[0])[-1])
                self.assertEqual(end.pile(one[1]), [])
                # Where it is stuck: no cash, and no ring.
                self.assertEqual(end.cash(one[0]), 0)
                self.assertIsNone(ring_of(end, one[0]))
            self.assertEqual(all_stuck(end), stuck)
            self.assertEqual(all_stuck(some_steps(chance, book, 7)), stuck)
            many.add(len(stuck))
        self.assertGreaterEqual(many, {0, 1, 2, 3, 4, 5, 6})

    def test_amounts_do_not_count(self):
        for seed in range(30):
            chance, book = book_by_seed(seed, 2)
            great = times(book, 10 ** 57 + 1)
            self.assertEqual(all_stuck(great), all_stuck(book))
            self.assertIs(is_paid(great), is_paid(book))
            self.assertEqual(all_lacks(great), {who: lack * (10 ** 57 + 1) for who, lack in all_lacks(book).items()})


class Own(unittest.TestCase):

    def test_told_dicts_and_lists_are_the_askers_own(self):
        book = three_piles()
        lacks, stuck = all_lacks(book), all_stuck(book)
        lacks["eve"] = 0
        lacks["joe"] = 3
        stuck.clear()
        self.assertEqual(all_lacks(book), {"eve": 4, "bob": 0, "ann": 0})
        self.assertEqual(all_stuck(book), [("eve", "ann"), ("bob", "ann")])
        self.assertIsNot(all_lacks(book), all_lacks(book))
        self.assertIsNot(all_stuck(book), all_stuck(book))
        self.assertEqual(book, three_piles())

    def test_by_the_names_of_the_arguments(self):
        book = three_piles()
        self.assertEqual(owes_of(who="eve", book=book), 8)
        self.assertEqual(owed_to(who="eve", book=book), 1)
        self.assertEqual(lack_of(who="eve", book=book), 4)
        self.assertEqual(all_lacks(book=book), all_lacks(book))
        self.assertIs(is_paid(book=book), False)
        self.assertEqual(all_stuck(book=book), all_stuck(book))


if __name__ == "__main__":
    unittest.main()
