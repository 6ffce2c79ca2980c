"""Ledgers: deeds done and refused, taken back, and copies."""

import random
import unittest

from things import SIXTY_FIGURES, TWELVE, LikeAll, any_deed, any_ledger, do, done, no_persons, odd_things, whole_numbers
from things import woven

from ringclear.books import Book
from ringclear.errors import Full, NoAmount, NoBack, NoBook, NoRing, NoStep, NoSuch, TooMuch
from ringclear.ledgers import Ledger
from ringclear.settling import settled_book, settling_steps
from ringclear.steps import by_weaving

DEEDS = [
    ("give", "eve", 5), ("put", "eve", "bob", 3), ("put", "bob", "eve", 2), ("pay", "eve", 1), ("clear", "bob", 1),
    ("settle",), ("settle",), ("put", "ann", "ann", 4), ("clear", "ann", 4), ("give", "eve", 1),
]


def ledger_of(deeds=DEEDS):
    ledger = Ledger(["eve", "bob", "ann"])
    for deed in deeds:
        do(ledger, deed)
    return ledger


def books_of(persons, deeds):
    """The books ahead of, between and behind deeds."""
    books = [Book(persons)]
    for deed in deeds:
        books.append(done(books[-1], deed))
    return books


class Ledgers(unittest.TestCase):

    def refused(self, kind, call, **fields):
        with self.assertRaises(kind) as caught:
            call()
        self.assertIs(type(caught.exception), kind)
        self.assertEqual({name: getattr(caught.exception, name) for name in fields}, fields)

    def stands(self, ledger, deeds, book):
        """Whether a ledger has just these deeds and this book."""
        self.assertEqual((ledger.log(), len(ledger)), (deeds, len(deeds)))
        self.assertIsInstance(ledger.book(), Book)
        self.assertEqual(ledger.book(), book)
        self.assertIs(type(ledger.log()), list)
        self.assertEqual([type(deed) for deed in ledger.log()], [tuple] * len(deeds))


class Deeds(Ledgers):

    def test_a_new_one(self):
        for persons in [["ann"], ["eve", "bob", "ann"], TWELVE]:
            self.stands(Ledger(persons), [], Book(persons))

    def test_every_kind_of_deed_as_it_was_handed_in(self):
        books = books_of(["eve", "bob", "ann"], DEEDS)
        ledger = Ledger(["eve", "bob", "ann"])
        for number, deed in enumerate(DEEDS, start=1):
            self.assertIsNone(do(ledger, deed))
            self.stands(ledger, DEEDS[:number], books[number])

    def test_deeds_by_chance(self):
        kinds = {}
        for seed in range(60):
            chance = random.Random(seed)
            persons = chance.sample(TWELVE, chance.randint(1, 6))
            ledger, book, deeds = Ledger(persons), Book(persons), []
            for _ in range(30):
                deed = any_deed(chance, book, [1, 60][seed % 2])
                book = done(book, deed)
                deeds.append(deed)
                self.assertIsNone(do(ledger, deed))
                kinds[deed[0]] = kinds.get(deed[0], 0) + 1
            self.stands(ledger, deeds, book)
        self.assertEqual(sorted(kinds), ["clear", "give", "pay", "put", "settle"])
        self.assertGreater(min(kinds.values()), 40)

    def test_a_settling_of_a_settled_book_is_a_deed(self):
        ledger = Ledger(["ann"])
        for many in range(1, 4):
            ledger.settle()
            self.stands(ledger, [("settle",)] * many, Book(["ann"]))

    def test_the_list_of_persons_changed_behind_the_call(self):
        persons = ["ann", "bob"]
        ledger = Ledger(persons)
        persons.append("eve")
        persons[0] = "joe"
        self.assertEqual(ledger.book(), Book(["ann", "bob"]))
        self.refused(NoSuch, lambda: ledger.give("joe", 1), who="joe")
        self.assertEqual(ledger.copied().book().persons(), ["ann", "bob"])

    def test_told_lists_changed_behind_the_call(self):
        ledger = ledger_of()
        ledger.log().clear()
        ledger.log().append(("give", "eve", 9))
        ledger.book().persons().clear()
        ledger.book().pile("eve").clear()
        self.assertIsNot(ledger.log(), ledger.log())
        self.stands(ledger, DEEDS, books_of(["eve", "bob", "ann"], DEEDS)[-1])

    def test_a_told_book_stays_as_it_was(self):
        ledger = ledger_of()
        book, key = ledger.book(), ledger.book().key()
        ledger.give("ann", 3)
        ledger.settle()
        ledger.back(5)
        self.assertEqual(book.key(), key)
        book.give("ann", 7)
        self.assertEqual(ledger.book().given("ann"), 0)


class NoDeeds(Ledgers):

    def same(self, ledger, kind, call, **fields):
        """Whether a deed is refused so, and changes nothing."""
        log, book = ledger.log(), ledger.book()
        self.refused(kind, call, **fields)
        self.stands(ledger, log, book)

    def test_no_book(self):
        looped = []
        looped.append(looped)
        for thing in [None, (), ("ann",), "ann", {"ann": 1}, 3, looped * 13, [], list("abcdefghijklm"), LikeAll()]:
            self.refused(NoBook, lambda: Ledger(thing), what="persons", who="persons")
        self.refused(NoBook, lambda: Ledger(["ann", "Bob", "ann"]), what="name", who="Bob")
        self.refused(NoBook, lambda: Ledger(["ann", None]), what="name", who="1")
        self.refused(NoBook, lambda: Ledger(["ann", "bob", "ann"]), what="again", who="ann")
        self.refused(NoBook, lambda: Ledger(["abcdefghi"]), what="name", who="abcdefghi")

    def test_put_and_give(self):
        ledger = ledger_of()
        for thing in no_persons():
            for amount in [1, 0, None]:
                self.same(ledger, NoSuch, lambda: ledger.put(thing, "eve", amount))
                self.same(ledger, NoSuch, lambda: ledger.put("eve", thing, amount))
                self.same(ledger, NoSuch, lambda: ledger.give(thing, amount))
        self.same(ledger, NoSuch, lambda: ledger.put("x", "y", 0), who="x")
        self.same(ledger, NoSuch, lambda: ledger.put("eve", "y", 0), who="y")
        for thing in odd_things() + [0, "1", LikeAll()]:
            self.same(ledger, NoAmount, lambda: ledger.put("eve", "bob", thing))
            self.same(ledger, NoAmount, lambda: ledger.give("eve", thing))

    def test_the_sixty_first_note(self):
        ledger = Ledger(["ann", "bob"])
        for number in range(60):
            ledger.put("ann", "bob" if number % 2 else "ann", SIXTY_FIGURES)
        self.same(ledger, Full, lambda: ledger.put("bob", "ann", 1), many=60)
        self.same(ledger, NoAmount, lambda: ledger.put("bob", "ann", 0))
        ledger.settle()
        self.same(ledger, Full, lambda: ledger.put("bob", "ann", 1), many=60)
        # Taken back, a note has gone from the book.
        ledger.back(2)
        ledger.put("bob", "ann", 1)
        self.assertEqual((len(ledger), len(ledger.book())), (60, 60))

    def test_steps(self):
        ledger = ledger_of(DEEDS[:3])
        no_steps = odd_things() + whole_numbers() + [
            "pay", ["pay", "eve", 1], ("pay", "eve"), ("pay", "eve", 1, 1), ("put", "eve", "bob", 1), ("give", "eve", 1),
            ("settle",), ("settle", "eve", 1), ("Pay", "eve", 1), (LikeAll(), "eve", 1), (None, "eve", 1), ([], "eve", 1),
        ]
        for thing in no_steps:
            self.same(ledger, NoStep, lambda: ledger.step(thing))
        for thing in no_persons():
            self.same(ledger, NoSuch, lambda: ledger.step(("pay", thing, 0)))
            self.same(ledger, NoSuch, lambda: ledger.step(("clear", thing, 1)))
        for thing in odd_things() + [0, "1", LikeAll()]:
            self.same(ledger, NoAmount, lambda: ledger.step(("pay", "eve", thing)))
            self.same(ledger, NoAmount, lambda: ledger.step(("clear", "ann", thing)))
        self.same(ledger, NoRing, lambda: ledger.step(("clear", "ann", 1)), who="ann")
        self.same(ledger, TooMuch, lambda: ledger.step(("clear", "bob", 3)), who="bob", most=2)
        self.same(ledger, TooMuch, lambda: ledger.step(("pay", "eve", 4)), who="eve", most=3)
        self.same(ledger, TooMuch, lambda: ledger.step(("pay", "bob", 1)), who="bob", most=0)


class Weaving(Ledgers):

    def test_how_many_steps_were_done(self):
        for seed in range(30):
            chance = random.Random(seed)
            ledger = any_ledger(chance, chance.sample(TWELVE, chance.randint(1, 5)), 20, 60)
            ledger.back(chance.randint(0, 5))
            book, log, weaving = ledger.book(), ledger.log(), settling_steps(ledger.book())
            elder = list(weaving)
            self.assertEqual(ledger.weave(weaving), len(elder))
            self.assertEqual(weaving, elder)
            self.stands(ledger, log + elder, settled_book(book))
            ledger.back(len(elder))
            self.stands(ledger, log, book)

    def test_of_no_steps(self):
        ledger = ledger_of()
        told = ledger.weave([])
        self.assertEqual((type(told), told), (int, 0))
        self.stands(ledger, DEEDS, books_of(["eve", "bob", "ann"], DEEDS)[-1])

    def test_the_first_refused_step_ends_it(self):
        good = [("pay", "eve", 1), ("clear", "bob", 1)]
        wrong = [
            (("pay", "eve", 9), TooMuch), (("clear", "ann", 1), NoRing), (("pay", "joe", 1), NoSuch),
            (("pay", "eve", 0), NoAmount), (("settle",), NoStep), (None, NoStep), (["pay", "eve", 1], NoStep),
            (("put", "eve", "bob", 1), NoStep),
        ]
        for step, kind in wrong:
            for many in range(3):
                ledger = ledger_of(DEEDS[:3])
                book = ledger.book()
                weaving = good[:many] + [step] + good + [("pay", "nobody", 1)]
                self.refused(kind, lambda: ledger.weave(weaving))
                self.stands(ledger, DEEDS[:3] + good[:many], by_weaving(book, good[:many]))

    def test_its_refusal_goes_on(self):
        ledger = ledger_of(DEEDS[:3])
        self.refused(TooMuch, lambda: ledger.weave([("pay", "eve", 2), ("pay", "eve", 2)]), who="eve", most=1)
        self.assertEqual(len(ledger), 4)

    def test_the_list_changed_behind_the_call(self):
        ledger, weaving = ledger_of(DEEDS[:3]), [("pay", "eve", 1)]
        ledger.weave(weaving)
        weaving.append(("pay", "eve", 2))
        self.assertEqual(ledger.log(), DEEDS[:3] + [("pay", "eve", 1)])


class Back(Ledgers):

    def test_by_every_number_of_deeds(self):
        books = books_of(["eve", "bob", "ann"], DEEDS)
        for many in range(len(DEEDS) + 1):
            ledger = ledger_of()
            self.assertIsNone(ledger.back(many))
            self.stands(ledger, DEEDS[:len(DEEDS) - many], books[len(DEEDS) - many])
            # What is done then is done behind what is left.
            ledger.give("ann", 8)
            self.assertEqual(ledger.log(), DEEDS[:len(DEEDS) - many] + [("give", "ann", 8)])
            self.assertEqual(ledger.book(), books[len(DEEDS) - many].give("ann", 8))

    def test_by_1_where_none_is_told(self):
        books = books_of(["eve", "bob", "ann"], DEEDS)
        ledger = ledger_of()
        for left in range(len(DEEDS) - 1, -1, -1):
            ledger.back()
            self.stands(ledger, DEEDS[:left], books[left])
        self.refused(NoBack, ledger.back)
        self.stands(ledger, [], books[0])
        ledger.back(0)
        ledger.back(many=0)

    def test_by_what_is_no_such_number(self):
        for many in [0, 1, 10]:
            ledger = ledger_of(DEEDS[:many])
            book = ledger.book()
            for thing in odd_things() + [many + 1, many + 2, SIXTY_FIGURES, "0", "1", LikeAll(), book, -many - 1]:
                self.refused(NoBack, lambda: ledger.back(thing))
                self.stands(ledger, DEEDS[:many], book)

    def test_to_and_fro(self):
        for seed in range(40):
            chance = random.Random(seed)
            persons = chance.sample(TWELVE, chance.randint(1, 5))
            ledger, books, deeds = Ledger(persons), [Book(persons)], []
            for _ in range(40):
                if chance.random() < 0.2:
                    many = chance.randint(0, min(6, len(deeds)))
                    ledger.back(many)
                    books = books[:len(books) - many]
                    deeds = deeds[:len(deeds) - many]
                else:
                    deed = any_deed(chance, books[-1])
                    do(ledger, deed)
                    deeds.append(deed)
                    books.append(done(books[-1], deed))
                self.stands(ledger, deeds, books[-1])


class Copies(Ledgers):

    def test_a_copy_stands_alike_and_goes_its_own_way(self):
        for many in range(len(DEEDS) + 1):
            books = books_of(["eve", "bob", "ann"], DEEDS)
            ledger = ledger_of()
            ledger.back(len(DEEDS) - many)
            other = ledger.copied()
            self.assertIsInstance(other, Ledger)
            self.assertIsNot(other, ledger)
            self.stands(other, DEEDS[:many], books[many])
            other.give("ann", 8)
            other.settle()
            self.stands(ledger, DEEDS[:many], books[many])
            ledger.put("bob", "ann", 7)
            self.stands(other, DEEDS[:many] + [("give", "ann", 8), ("settle",)], settled_book(books[many].give("ann", 8)))
            self.stands(ledger, DEEDS[:many] + [("put", "bob", "ann", 7)], books[many].put("bob", "ann", 7))
            # Each is taken back by its own deeds alone.
            other.back(2 + many)
            self.stands(other, [], books[0])
            ledger.back(1)
            self.stands(ledger, DEEDS[:many], books[many])

    def test_a_copy_can_be_taken_back_to_the_first_deed(self):
        books = books_of(["eve", "bob", "ann"], DEEDS)
        ledger = ledger_of()
        other = ledger.copied()
        ledger.back(len(DEEDS))
        for left in range(len(DEEDS) - 1, -1, -1):
            other.back()
            self.stands(other, DEEDS[:left], books[left])
        self.refused(NoBack, other.back)

    def test_copies_of_copies(self):
        one = ledger_of(DEEDS[:2])
        two = one.copied()
        three = two.copied()
        two.give("bob", 1)
        three.back()
        self.assertEqual([len(one), len(two), len(three)], [2, 3, 1])
        self.assertEqual([ledger.book().given("bob") for ledger in [one, two, three]], [0, 1, 0])


class OneEnd(Ledgers):

    def test_two_ledgers_of_the_same_puts_and_sums_settle_to_the_same(self):
        for seed in range(60):
            chance = random.Random(seed)
            figures = [1, 60][seed % 2]
            one = any_ledger(chance, chance.sample(TWELVE, chance.randint(1, 6)), 40, figures)
            other = woven(chance, one)
            self.assertEqual(settled_book(one.book()), settled_book(other.book()))
            one.settle()
            other.settle()
            self.assertEqual(one.book(), other.book())


class Names(Ledgers):

    def test_by_the_names_of_the_arguments(self):
        ledger = Ledger(persons=["ann", "bob"])
        ledger.put(amount=3, to="bob", who="ann")
        ledger.give(amount=2, who="ann")
        ledger.step(step=("pay", "ann", 1))
        self.assertEqual(ledger.weave(weaving=[("pay", "ann", 1)]), 1)
        ledger.settle()
        log = [("put", "ann", "bob", 3), ("give", "ann", 2), ("pay", "ann", 1), ("pay", "ann", 1), ("settle",)]
        self.assertEqual(ledger.log(), log)
        ledger.back(many=3)
        self.assertEqual(ledger.log(), log[:2])


if __name__ == "__main__":
    unittest.main()
