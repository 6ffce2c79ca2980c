"""What has no bearing on the settled book."""

import random
import unittest

from things import SIXTY_FIGURES, TWELVE, any_book

from ringclear.books import Book
from ringclear.gifts import least_gift, worth_of
from ringclear.lacks import all_lacks, all_stuck, is_paid
from ringclear.settling import settled_book


def book_of(persons, given, notes):
    """A book of these persons, sums and notes, of which nothing has fallen."""
    book = Book(persons)
    for who in persons:
        if given[who] > 0:
            book = book.give(who, given[who])
        for to, amount in notes[who]:
            book = book.put(who, to, amount)
    return book


def parts_of(book):
    """The persons of a book, what was given, and the notes, to make another one of."""
    persons = book.persons()
    return persons, {who: book.given(who) for who in persons}, {who: book.notes(who) for who in persons}


def cash_of(book):
    return {who: book.cash(who) for who in book.persons()}


def piles_of(book):
    return {who: book.pile(who) for who in book.persons()}


def joined(notes):
    """The same notes, with those to one that lie one behind the other made one note."""
    told = []
    for to, amount in notes:
        if told and told[-1][0] == to:
            told[-1] = (to, told[-1][1] + amount)
        else:
            told.append((to, amount))
    return told


def halved(notes):
    """The same notes, with each of 2 or more made two notes."""
    told = []
    for to, amount in notes:
        told += [(to, amount // 2), (to, amount - amount // 2)] if amount > 1 else [(to, amount)]
    return told


def books_by_chance(many, notes):
    """Books of one to eight persons, of small amounts and of great ones."""
    for seed in range(many):
        chance = random.Random(seed)
        persons = chance.sample(TWELVE, chance.randint(1, 8))
        yield chance, any_book(chance, persons, chance.randint(1, notes), chance.choice([1, 2, 60]))


class NoBearing(unittest.TestCase):

    def test_the_order_of_notes_in_a_pile_that_is_emptied(self):
        turned = 0
        for chance, book in books_by_chance(150, 30):
            persons, given, notes = parts_of(book)
            end = settled_book(book)
            empty = [who for who in persons if end.pile(who) == [] and len(notes[who]) > 1]
            for some in [[who] for who in empty] + [empty]:
                other = {who: notes[who] for who in persons}
                for who in some:
                    other[who] = chance.sample(notes[who], len(notes[who]))
                told = settled_book(book_of(persons, given, other))
                self.assertEqual(cash_of(told), cash_of(end))
                self.assertEqual(piles_of(told), piles_of(end))
                turned += other != notes and len(end) > 0
        self.assertGreater(turned, 30)

    def test_the_order_in_a_pile_that_is_not_emptied_may_have(self):
        book = Book(["ann", "bob", "eve"]).give("ann", 2)
        one = settled_book(book.put("ann", "bob", 2).put("ann", "eve", 2))
        other = settled_book(book.put("ann", "eve", 2).put("ann", "bob", 2))
        self.assertEqual((one.cash("bob"), other.cash("bob")), (2, 0))

    def test_two_notes_in_one(self):
        for make in [joined, halved]:
            changed = 0
            for chance, book in books_by_chance(120, 28):
                persons, given, notes = parts_of(book)
                end = settled_book(book)
                other = {who: make(notes[who]) for who in persons}
                told = settled_book(book_of(persons, given, other))
                self.assertEqual(cash_of(told), cash_of(end))
                for who in persons:
                    self.assertEqual(told.fallen(who), end.fallen(who))
                    self.assertEqual(joined(told.pile(who)), joined(end.pile(who)))
                    if other[who] == notes[who]:
                        self.assertEqual(told.pile(who), end.pile(who))
                changed += other != notes and len(end) > 0
            self.assertGreater(changed, 30)

    def test_notes_to_oneself(self):
        for chance, book in books_by_chance(150, 30):
            persons, given, notes = parts_of(book)
            none = {who: [note for note in notes[who] if note[0] != who] for who in persons}
            more = {who: list(notes[who]) for who in persons}
            for _ in range(chance.randint(1, 25)):
                who = chance.choice(persons)
                more[who].insert(chance.randint(0, len(more[who])), (who, chance.choice([1, 7, SIXTY_FIGURES])))
            end = settled_book(book_of(persons, given, none))
            for other in [notes, more]:
                told = settled_book(book_of(persons, given, other))
                self.assertEqual(cash_of(told), cash_of(end))
                for who in persons:
                    self.assertEqual([note for note in told.pile(who) if note[0] != who], end.pile(who))


class NoBearingOnWhatIsAsked(unittest.TestCase):

    def alike(self, one, other):
        """Whether who lacks, who is stuck and where, and whether all is paid, is told alike."""
        self.assertEqual(all_lacks(one), all_lacks(other))
        self.assertEqual(all_stuck(one), all_stuck(other))
        self.assertIs(is_paid(one), is_paid(other))

    def test_two_notes_in_one(self):
        for make in [joined, halved]:
            for chance, book in books_by_chance(40, 28):
                persons, given, notes = parts_of(book)
                other = book_of(persons, given, {who: make(notes[who]) for who in persons})
                self.alike(book, other)
                for _ in range(6):
                    to, of = chance.choice(persons), chance.choice(persons)
                    amount = chance.randint(0, book.whole_of(of))
                    self.assertEqual(least_gift(book, to, of, amount=amount), least_gift(other, to, of, amount=amount))
                    self.assertEqual(least_gift(book, to, of), least_gift(other, to, of))

    def test_notes_to_oneself(self):
        for chance, book in books_by_chance(40, 30):
            persons, given, notes = parts_of(book)
            none = book_of(persons, given, {who: [note for note in notes[who] if note[0] != who] for who in persons})
            self.alike(book, none)
            for _ in range(6):
                to, of = chance.choice(persons), chance.choice(persons)
                numbers = [number for number, note in enumerate(notes[of]) if note[0] != of]
                # Each other note has the same worth, by whichever number it goes.
                for number, elder in enumerate(numbers):
                    self.assertEqual(worth_of(none, to, of, number), worth_of(book, to, of, elder))


if __name__ == "__main__":
    unittest.main()
