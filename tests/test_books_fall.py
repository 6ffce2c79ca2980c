"""What falls, falls from above, and nobody's cash is below 0."""

import random
import unittest

from things import SIXTY_FIGURES, CoinBook, odd_things

from ringclear.books import Book
from ringclear.errors import NoSuch, NoVector, Short


def three_notes():
    """Ann owes bob 3, eve 4 and bob 5 in this order, and has 20."""
    book = Book(["ann", "bob", "eve"]).give("ann", 20)
    return book.put("ann", "bob", 3).put("ann", "eve", 4).put("ann", "bob", 5)


class Fall(unittest.TestCase):

    def test_from_above_whole_notes_and_a_part_of_the_next(self):
        piles = {
            0: [("bob", 3), ("eve", 4), ("bob", 5)],
            1: [("bob", 2), ("eve", 4), ("bob", 5)],
            3: [("eve", 4), ("bob", 5)],
            4: [("eve", 3), ("bob", 5)],
            7: [("bob", 5)],
            11: [("bob", 1)],
            12: [],
        }
        for much, pile in piles.items():
            with self.subTest(much):
                book = three_notes().let_fall({"ann": much})
                self.assertIsInstance(book, Book)
                self.assertEqual((book.pile("ann"), len(book)), (pile, len(pile)))
                self.assertEqual(book.notes("ann"), [("bob", 3), ("eve", 4), ("bob", 5)])
                self.assertEqual((book.fallen("ann"), book.cash("ann"), book.given("ann")), (much, 20 - much, 20))
                self.assertEqual(book.whole_of("ann"), 12)

    def test_to_whom_it_falls(self):
        told = []
        for much in range(13):
            book = three_notes().let_fall({"ann": much})
            told.append((book.fallen_to("bob"), book.fallen_to("eve"), book.fallen_to("ann")))
            self.assertEqual((book.cash("bob"), book.cash("eve")), told[-1][:2])
        bobs = [0, 1, 2, 3, 3, 3, 3, 3, 4, 5, 6, 7, 8]
        self.assertEqual(told, [(bob, much - bob, 0) for much, bob in enumerate(bobs)])

    def test_a_name_that_is_a_part_of_another_one(self):
        book = Book(["ann", "an", "a"]).give("ann", 9).put("ann", "an", 2).put("ann", "a", 3).put("ann", "ann", 4)
        book = book.let_fall({"ann": 9})
        self.assertEqual([book.fallen_to(who) for who in book.persons()], [4, 2, 3])
        self.assertEqual([book.cash(who) for who in book.persons()], [4, 2, 3])

    def test_the_elder_book_stays(self):
        elder = three_notes()
        elder.let_fall({"ann": 12})
        self.assertEqual(elder, three_notes())
        self.assertEqual((elder.fallen("ann"), len(elder)), (0, 3))

    def test_the_dict_is_not_kept_or_changed(self):
        more = {"ann": 2}
        book = three_notes().let_fall(more)
        self.assertEqual(more, {"ann": 2})
        more["ann"] = 5
        self.assertEqual(book.fallen("ann"), 2)

    def test_nothing_falls(self):
        for more in [{}, {"ann": 0}, {"eve": 0, "bob": 0}]:
            self.assertEqual(three_notes().let_fall(more), three_notes())

    def test_by_the_name_of_the_argument(self):
        self.assertEqual(three_notes().let_fall(more={"ann": 1}).fallen("ann"), 1)

    def test_notes_to_oneself_need_no_cash(self):
        book = Book(["ann"]).put("ann", "ann", 7).let_fall({"ann": 5})
        told = [book.cash("ann"), book.fallen("ann"), book.fallen_to("ann"), book.pile("ann")]
        self.assertEqual(told, [0, 5, 5, [("ann", 2)]])

    def test_a_ring_falls_without_any_cash(self):
        book = Book(["ann", "bob", "eve"]).put("ann", "bob", 3).put("bob", "eve", 4).put("eve", "ann", 5)
        book = book.let_fall({"eve": 3, "ann": 3, "bob": 3})
        self.assertEqual([book.cash(who) for who in book.persons()], [0, 0, 0])
        self.assertEqual([book.pile(who) for who in book.persons()], [[], [("eve", 1)], [("ann", 2)]])
        self.assertEqual(len(book), 2)

    def test_cash_that_falls_to_somebody_may_fall_on_at_once(self):
        book = Book(["ann", "bob", "eve"]).put("ann", "bob", 3).put("eve", "ann", 3).give("eve", 3)
        book = book.let_fall({"ann": 3, "eve": 3})
        self.assertEqual([book.cash(who) for who in book.persons()], [0, 3, 0])

    def test_in_two_parts_the_same_as_at_once(self):
        for first in range(13):
            for second in range(13 - first):
                parts = three_notes().let_fall({"ann": first}).let_fall({"ann": second})
                self.assertEqual(parts, three_notes().let_fall({"ann": first + second}))

    def test_amounts_of_sixty_figures(self):
        book = Book(["ann", "bob"]).put("ann", "bob", SIXTY_FIGURES).put("bob", "ann", SIXTY_FIGURES)
        book = book.let_fall({"ann": SIXTY_FIGURES - 1, "bob": SIXTY_FIGURES - 1})
        self.assertEqual((book.pile("ann"), book.pile("bob")), ([("bob", 1)], [("ann", 1)]))
        self.assertEqual((book.cash("ann"), book.fallen_to("bob")), (0, SIXTY_FIGURES - 1))


class Refused(unittest.TestCase):

    def no_vector(self, book, more):
        with self.subTest(repr(more)[:50]), self.assertRaises(NoVector):
            book.let_fall(more)

    def short(self, book, more, who):
        with self.subTest(repr(more)[:50]), self.assertRaises(Short) as caught:
            book.let_fall(more)
        self.assertEqual(caught.exception.who, who)

    def test_what_is_no_dict(self):
        for thing in odd_things() + [0, 1, "ann", [("ann", 1)], Book(["ann"])]:
            if not isinstance(thing, dict):
                self.no_vector(three_notes(), thing)

    def test_what_is_no_person_as_a_key(self):
        for key in ["", "joe", "Ann", None, 0, 1, True, (), ("ann",), ("ann", 1), b"ann", frozenset()]:
            self.no_vector(three_notes(), {key: 0})
            self.no_vector(three_notes(), {"ann": 1, key: 1})
            self.no_vector(three_notes(), {key: 1, "ann": 1})

    def test_what_is_no_whole_number_from_0_on(self):
        for thing in odd_things() + ["ann", "1"]:
            self.no_vector(three_notes(), {"ann": thing})
            self.no_vector(three_notes(), {"bob": 0, "ann": thing})

    def test_more_than_all_notes_come_to(self):
        self.no_vector(three_notes(), {"ann": 13})
        self.no_vector(three_notes(), {"ann": 1, "bob": 1})
        self.no_vector(three_notes(), {"eve": 1})
        self.no_vector(three_notes(), {"ann": SIXTY_FIGURES})
        self.no_vector(three_notes().let_fall({"ann": 10}), {"ann": 3})

    def test_no_vector_goes_ahead_of_short(self):
        book = Book(["ann", "bob"]).put("ann", "bob", 3)
        self.short(book, {"ann": 1}, "ann")
        self.no_vector(book, {"ann": 4})
        self.no_vector(book, {"ann": 1, "bob": 1})
        self.no_vector(book, {"ann": 1, "joe": 0})
        self.no_vector(book, {"ann": 1, "bob": None})

    def test_the_first_in_order_is_short(self):
        book = Book(["eve", "bob", "ann"]).put("ann", "eve", 3).put("bob", "eve", 3).put("eve", "eve", 2)
        self.short(book, {"ann": 1, "bob": 1}, "bob")
        self.short(book, {"bob": 1, "ann": 1}, "bob")
        self.short(book, {"ann": 1, "eve": 2}, "ann")
        book = book.put("eve", "bob", 9)
        self.short(book, {"ann": 1, "bob": 1, "eve": 5}, "eve")
        self.short(book, {"ann": 3, "bob": 3, "eve": 8}, "ann")

    def test_to_the_last_coin(self):
        book = Book(["ann", "bob"]).put("ann", "bob", 9).give("ann", 5)
        self.assertEqual(book.let_fall({"ann": 5}).cash("ann"), 0)
        self.short(book, {"ann": 6}, "ann")
        self.short(book.let_fall({"ann": 4}), {"ann": 2}, "ann")

    def test_a_ring_with_more_of_one(self):
        book = Book(["ann", "bob"]).put("ann", "bob", 9).put("bob", "ann", 9)
        self.short(book, {"ann": 4, "bob": 5}, "bob")
        self.short(book, {"ann": 5, "bob": 4}, "ann")

    def test_what_is_refused_changes_nothing(self):
        book = three_notes()
        self.no_vector(book, {"ann": 13})
        self.short(book.put("bob", "ann", 1), {"bob": 1}, "bob")
        with self.assertRaises(NoSuch):
            book.give("joe", 1)
        self.assertEqual(book, three_notes())


class LikeCoins(unittest.TestCase):

    def compare(self, book, coins):
        for who in coins.persons:
            self.assertEqual(book.cash(who), coins.cash(who))
            self.assertEqual(book.fallen_to(who), coins.fallen_to(who))
            self.assertEqual(book.pile(who), coins.pile(who))
            self.assertEqual(book.notes(who), coins.notes[who])
            self.assertEqual(book.fallen(who), coins.gone[who])
            self.assertEqual(book.given(who), coins.given[who])
            self.assertEqual(book.whole_of(who), len(coins.coins[who]))
        self.assertEqual(len(book), sum(len(coins.pile(who)) for who in coins.persons))

    def let_fall(self, book, coins, more):
        refusal = coins.refusal(more)
        if refusal is None:
            coins.let_fall(more)
            return book.let_fall(more)
        with self.assertRaises((NoVector, Short)) as caught:
            book.let_fall(more)
        told = (type(caught.exception).__name__, getattr(caught.exception, "who", None))
        self.assertEqual(told, refusal)
        return book

    def test_the_same_as_coin_by_coin(self):
        for seed in range(120):
            chance = random.Random(seed)
            persons = chance.sample(["ann", "bob", "eve", "joe", "max"], chance.randint(1, 5))
            book, coins = Book(persons), CoinBook(persons)
            for _ in range(25):
                who, to, amount = chance.choice(persons), chance.choice(persons), chance.randint(1, 4)
                deed = chance.choice(["put", "put", "give", "fall", "fall"])
                if deed == "put":
                    book = book.put(who, to, amount)
                    coins.put(who, to, amount)
                elif deed == "give":
                    book = book.give(who, amount)
                    coins.give(who, amount)
                else:
                    some = chance.sample(persons, chance.randint(1, len(persons)))
                    book = self.let_fall(book, coins, {one: chance.randint(0, 3) for one in some})
                self.compare(book, coins)


if __name__ == "__main__":
    unittest.main()
