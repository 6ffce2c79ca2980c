"""What is promised of the whole: one end, the greatest, who lacks, more, and where it is stuck."""

import itertools
import random
import unittest

from things import TWELVE, all_vectors, any_amount, any_ledger, book_by_seed, do, plain_ends, small_book, some_steps
from things import steps_from, vector_of, woven

from ringclear.books import Book
from ringclear.booktexts import book_text, read_book
from ringclear.desk import Desk
from ringclear.gifts import forecast_of, least_gift
from ringclear.histories import history_text, read_history
from ringclear.lacks import all_lacks, all_stuck, is_paid
from ringclear.ledgers import Ledger
from ringclear.rings import due_of, ends_at, ring_of, trail_of
from ringclear.settling import is_settled, settled_book
from ringclear.steps import stepped
from ringclear.vectors import fallen_of, greatest_of, is_covered
from ringclear.ways import book_at, way_to


def figures_by(seed):
    return [1, 2, 60][seed % 3]


def told_by_desk(ledger):
    """All that a desk tells of the end of a ledger."""
    desk = Desk()
    persons = ledger.book().persons()
    desk.say("open one " + " ".join(persons))
    for row in history_text(ledger).splitlines()[1:]:
        word, *rest = row.split(" ")
        desk.say(" ".join([word, "one"] + rest))
    told = [desk.say("stuck one"), desk.say("paid one")] + [desk.say(f"lacks one {who}") for who in persons]
    desk.say("settle one")
    for word in ["cash", "owes", "fallen", "pile"]:
        told += [desk.say(f"{word} one {who}") for who in persons]
    return told + [desk.say("rings one"), desk.say("stuck one"), desk.say("paid one")]


class OneEnd(unittest.TestCase):

    def test_whoever_paid_first_and_whichever_rings_were_cleared(self):
        for seed in range(50):
            chance = random.Random(seed)
            one = any_ledger(chance, chance.sample(TWELVE, chance.randint(1, 7)), 35, figures_by(seed))
            end = settled_book(one.book())
            plainly = Ledger(one.book().persons())
            for deed in one.log():
                if deed[0] in ["put", "give"]:
                    do(plainly, deed)
            for other in [plainly, woven(chance, one), woven(chance, one), read_history(history_text(one)), one.copied()]:
                self.assertEqual(settled_book(other.book()), end)
                self.assertEqual(settled_book(read_book(book_text(other.book()))), end)
                self.assertEqual(greatest_of(other.book()), vector_of(end))
                self.assertEqual(all_stuck(other.book()), all_stuck(one.book()))
                self.assertEqual(all_lacks(other.book()), all_lacks(one.book()))
                self.assertEqual(told_by_desk(other), told_by_desk(one))

    def test_gifts_are_forecast_alike(self):
        for seed in range(30):
            chance = random.Random(seed)
            one = any_ledger(chance, chance.sample(TWELVE, chance.randint(1, 5)), 25, figures_by(seed))
            other = woven(chance, one)
            gifts = {who: any_amount(chance, 3) for who in one.book().persons()}
            self.assertEqual(forecast_of(one.book(), gifts), forecast_of(other.book(), gifts))
            for to in one.book().persons():
                for of in one.book().persons():
                    self.assertEqual(least_gift(one.book(), to, of), least_gift(other.book(), to, of))


class Greatest(unittest.TestCase):

    def test_of_all_vectors_by_which_nobodys_cash_is_below_0(self):
        for seed in range(60):
            chance = random.Random(seed)
            book = small_book(chance, notes=5)
            covered = [vector for vector in all_vectors(book) if min(plain_ends(book, vector).values()) >= 0]
            most = {who: max(vector[who] for vector in covered) for who in book.persons()}
            self.assertIn(most, covered)
            self.assertEqual(vector_of(settled_book(book)), most)
            self.assertEqual(greatest_of(some_steps(chance, book, 3)), most)

    def test_weavings_lead_to_just_all_of_these(self):
        for seed in range(60):
            book = small_book(random.Random(seed))
            seen, rest = {book.key()}, [book]
            while rest:
                one = rest.pop()
                self.assertIs(is_covered(book, fallen_of(one)), True)
                for other in [stepped(one, step) for step in steps_from(one)]:
                    if other.key() not in seen:
                        seen.add(other.key())
                        rest.append(other)
            covered = [vector for vector in all_vectors(book) if is_covered(book, vector)]
            self.assertEqual(seen, {book_at(book, vector).key() for vector in covered})

    def test_ledgers_woven_there(self):
        for seed in range(40):
            chance = random.Random(seed)
            ledger = any_ledger(chance, chance.sample(TWELVE, chance.randint(1, 5)), 25, figures_by(seed))
            book = ledger.book()
            zero = book_at(book, {who: 0 for who in book.persons()})
            target = some_steps(chance, zero, chance.randint(0, 12))
            other = Ledger(book.persons())
            for deed in ledger.log():
                if deed[0] in ["put", "give"]:
                    do(other, deed)
            way = way_to(other.book(), fallen_of(target))
            self.assertEqual(other.weave(way), len(way))
            self.assertEqual(other.book(), target)


class Paid(unittest.TestCase):

    def test_just_where_nobody_lacks_in_whatever_order(self):
        counts = {True: 0, False: 0}
        for seed in range(150):
            chance = random.Random(seed)
            book = small_book(chance, notes=4)
            orders = [itertools.permutations(book.notes(who)) for who in book.persons()]
            for row in list(itertools.product(*orders))[:40]:
                other = Book(book.persons())
                for who, notes in zip(book.persons(), row):
                    other = other.give(who, book.given(who)) if book.given(who) else other
                    for note in notes:
                        other = other.put(who, *note)
                self.assertIs(len(settled_book(other)) == 0, max(all_lacks(book).values()) == 0)
                self.assertIs(is_paid(other), is_paid(book))
                counts[is_paid(book)] += 1
        self.assertGreater(min(counts.values()), 50)

    def test_the_least_cash_that_must_be_given(self):
        for seed in range(40):
            chance = random.Random(seed)
            book = some_steps(chance, small_book(chance), seed % 3)
            wholes = {who: book.whole_of(who) for who in book.persons()}
            lacks = all_lacks(book)
            for row in itertools.product(*[range(lacks[who] + 2) for who in book.persons()]):
                gifts = dict(zip(book.persons(), row))
                enough = all(gifts[who] >= lacks[who] for who in gifts)
                self.assertIs(forecast_of(book, gifts) == wholes, enough)

    def test_given_so_nothing_is_stuck(self):
        for seed in range(60):
            chance, book = book_by_seed(seed, figures_by(seed))
            lacks = all_lacks(book)
            full = book
            for who in book.persons():
                full = full.give(who, lacks[who]) if lacks[who] else full
            self.assertEqual((all_stuck(full), len(settled_book(full)), is_paid(full)), ([], 0, True))
            self.assertEqual(forecast_of(book, lacks), {who: book.whole_of(who) for who in book.persons()})


class More(unittest.TestCase):

    def test_more_given_or_put_never_hurts(self):
        for seed in range(80):
            figures = figures_by(seed)
            chance = random.Random(seed)
            ledger = any_ledger(chance, chance.sample(TWELVE, chance.randint(1, 8)), 30, figures)
            book = ledger.book()
            persons = book.persons()
            elder = vector_of(settled_book(book))
            for _ in range(6):
                who, to = chance.choice(persons), chance.choice(persons)
                if chance.random() < 0.5:
                    book = book.put(who, to, any_amount(chance, figures))
                else:
                    book = book.give(who, any_amount(chance, figures))
                told = vector_of(settled_book(book))
                for one in persons:
                    self.assertGreaterEqual(told[one], elder[one])
                elder = told


class Stuck(unittest.TestCase):

    def test_where_it_is_stuck(self):
        left = 0
        for seed in range(80):
            chance, book = book_by_seed(seed, figures_by(seed))
            end = settled_book(book)
            self.assertIs(is_settled(end), True)
            for who in [one for one in end.persons() if end.pile(one)]:
                self.assertEqual(end.cash(who), 0)
                self.assertIsNone(ring_of(end, who))
                trail = trail_of(end, who)
                self.assertEqual(end.pile(trail[-1]), [])
                self.assertEqual(ends_at(end, who), trail[-1])
                for one, other in zip(trail, trail[1:]):
                    self.assertEqual(due_of(end, one)[0], other)
                self.assertIn((who, trail[-1]), all_stuck(book))
                left += 1
        self.assertGreater(left, 100)


if __name__ == "__main__":
    unittest.main()
