"""Pays and clears, by what they are refused, and weavings."""

import random
import unittest

from things import SIXTY_FIGURES, TWELVE, CoinBook, LikeAll, any_book, no_persons, odd_things

from ringclear.books import Book
from ringclear.errors import NoAmount, NoRing, NoStep, NoSuch, TooMuch
from ringclear.steps import by_weaving, clear_ring, most_of, pay_on, stepped

NO_AMOUNTS = odd_things() + [0, "1", "ann", LikeAll()]


def payers_book():
    """Ann can pay 3 of her 5, bob has no cash, eve has nothing to pay."""
    book = Book(["ann", "bob", "eve"]).give("ann", 5).give("eve", 4)
    return book.put("ann", "bob", 3).put("ann", "eve", 4).put("bob", "eve", 2)


def ring_book():
    """Eve, ann and bob in a ring of 4, 6 and 5, and joe beside it."""
    book = Book(["joe", "ann", "bob", "eve"]).put("ann", "bob", 6).put("bob", "eve", 5).put("eve", "ann", 4)
    return book.put("eve", "joe", 1).put("joe", "ann", 2)


class Steps(unittest.TestCase):

    def refused(self, kind, call, **fields):
        with self.assertRaises(kind) as caught:
            call()
        self.assertIs(type(caught.exception), kind)
        self.assertEqual({name: getattr(caught.exception, name) for name in fields}, fields)


class Pays(Steps):

    def test_by_the_least_and_the_greatest_amount(self):
        for amount in [1, 2, 3]:
            book = pay_on(payers_book(), "ann", amount)
            self.assertIsInstance(book, Book)
            self.assertEqual(book, payers_book().let_fall({"ann": amount}))
            self.assertEqual([book.cash(who) for who in book.persons()], [5 - amount, amount, 4])
        self.assertEqual(pay_on(payers_book(), "ann", 3).pile("ann"), [("eve", 4)])

    def test_no_more_than_the_cash(self):
        book = pay_on(payers_book(), "ann", 3)
        self.refused(TooMuch, lambda: pay_on(book, "ann", 3), who="ann", most=2)
        self.assertEqual(pay_on(book, "ann", 2).pile("ann"), [("eve", 2)])
        self.assertEqual(pay_on(book, "bob", 2).cash("eve"), 6)

    def test_no_more_than_the_due_note(self):
        self.refused(TooMuch, lambda: pay_on(payers_book(), "ann", 4), who="ann", most=3)
        book = pay_on(payers_book(), "ann", 1)
        self.refused(TooMuch, lambda: pay_on(book, "ann", 3), who="ann", most=2)

    def test_no_cash_or_no_due_note(self):
        self.refused(TooMuch, lambda: pay_on(payers_book(), "bob", 1), who="bob", most=0)
        self.refused(TooMuch, lambda: pay_on(payers_book(), "eve", 1), who="eve", most=0)

    def test_to_oneself(self):
        book = Book(["ann"]).give("ann", 2).put("ann", "ann", 5)
        self.refused(TooMuch, lambda: pay_on(book, "ann", 3), who="ann", most=2)
        book = pay_on(book, "ann", 2)
        self.assertEqual((book.cash("ann"), book.fallen("ann"), book.pile("ann")), (2, 2, [("ann", 3)]))
        book = pay_on(book, "ann", 2)
        self.refused(TooMuch, lambda: pay_on(book, "ann", 2), who="ann", most=1)

    def test_within_a_ring(self):
        book = ring_book().give("bob", 1)
        self.assertEqual(pay_on(book, "bob", 1).cash("eve"), 1)

    def test_sixty_figures(self):
        book = Book(["ann", "bob"]).give("ann", SIXTY_FIGURES).put("ann", "bob", SIXTY_FIGURES + 1)
        self.refused(TooMuch, lambda: pay_on(book, "ann", SIXTY_FIGURES + 1), who="ann", most=SIXTY_FIGURES)
        self.assertEqual(pay_on(book, "ann", SIXTY_FIGURES).pile("ann"), [("bob", 1)])

    def test_refused_in_order(self):
        for thing in no_persons():
            for amount in [0, 1, None, SIXTY_FIGURES]:
                with self.assertRaises(NoSuch) as caught:
                    pay_on(payers_book(), thing, amount)
                self.assertIs(caught.exception.who, thing)
        for who in ["ann", "bob", "eve"]:
            for thing in NO_AMOUNTS:
                self.refused(NoAmount, lambda: pay_on(payers_book(), who, thing))

    def test_the_elder_book_stays(self):
        elder = payers_book()
        pay_on(elder, "ann", 2)
        self.refused(TooMuch, lambda: pay_on(elder, "ann", 9), who="ann", most=3)
        self.assertEqual(elder, payers_book())


class Clears(Steps):

    def test_by_the_least_and_the_greatest_amount(self):
        for who in ["ann", "bob", "eve"]:
            for amount in [1, 2, 3, 4]:
                book = clear_ring(ring_book(), who, amount)
                self.assertIsInstance(book, Book)
                self.assertEqual(book, ring_book().let_fall({"ann": amount, "bob": amount, "eve": amount}))
                self.assertEqual([book.cash(name) for name in book.persons()], [0] * 4)
            self.refused(TooMuch, lambda: clear_ring(ring_book(), who, 5), who=who, most=4)
        self.assertEqual(clear_ring(ring_book(), "bob", 4).pile("eve"), [("joe", 1)])

    def test_the_ring_that_comes_next(self):
        book = clear_ring(ring_book(), "bob", 4)
        self.refused(TooMuch, lambda: clear_ring(book, "joe", 2), who="joe", most=1)
        book = clear_ring(book, "joe", 1)
        self.assertEqual([book.fallen(who) for who in book.persons()], [1, 5, 5, 5])
        self.assertEqual((len(book), book.pile("eve")), (2, []))
        self.refused(NoRing, lambda: clear_ring(book, "joe", 1), who="joe")

    def test_in_no_ring(self):
        self.refused(NoRing, lambda: clear_ring(ring_book(), "joe", 1), who="joe")
        self.refused(NoRing, lambda: clear_ring(ring_book(), "joe", SIXTY_FIGURES), who="joe")
        self.refused(NoRing, lambda: clear_ring(payers_book(), "eve", 1), who="eve")

    def test_cash_has_no_bearing(self):
        book = clear_ring(ring_book().give("eve", 9).give("ann", 1), "ann", 4)
        self.assertEqual([book.cash(who) for who in book.persons()], [0, 1, 0, 9])

    def test_to_oneself(self):
        book = Book(["ann", "bob"]).put("ann", "ann", 5).put("bob", "ann", 1)
        self.refused(TooMuch, lambda: clear_ring(book, "ann", 6), who="ann", most=5)
        self.assertEqual(clear_ring(book, "ann", 5).pile("ann"), [])
        self.assertEqual(clear_ring(book, "ann", 2).cash("ann"), 0)

    def test_twelve_persons_and_sixty_figures(self):
        book = Book(TWELVE)
        for number, (who, to) in enumerate(zip(TWELVE, TWELVE[1:] + TWELVE[:1])):
            book = book.put(who, to, SIXTY_FIGURES - number)
        self.refused(TooMuch, lambda: clear_ring(book, "c", SIXTY_FIGURES), who="c", most=SIXTY_FIGURES - 11)
        self.assertEqual(len(clear_ring(book, "c", SIXTY_FIGURES - 11)), 11)

    def test_refused_in_order(self):
        for thing in no_persons():
            for amount in [0, 1, None, SIXTY_FIGURES]:
                with self.assertRaises(NoSuch) as caught:
                    clear_ring(ring_book(), thing, amount)
                self.assertIs(caught.exception.who, thing)
        for who in ["ann", "joe"]:
            for thing in NO_AMOUNTS:
                self.refused(NoAmount, lambda: clear_ring(ring_book(), who, thing))

    def test_the_elder_book_stays(self):
        elder = ring_book()
        clear_ring(elder, "ann", 4)
        self.refused(TooMuch, lambda: clear_ring(elder, "ann", 5), who="ann", most=4)
        self.assertEqual(elder, ring_book())


class Most(Steps):

    def test_of_a_pay(self):
        self.assertEqual([most_of(payers_book(), who) for who in ["ann", "bob", "eve"]], [3, 0, 0])
        self.assertEqual([most_of(payers_book(), who, word="pay") for who in ["ann", "bob", "eve"]], [3, 0, 0])
        self.assertEqual(most_of(pay_on(payers_book(), "ann", 3), "ann"), 2)
        self.assertEqual(most_of(ring_book().give("ann", 9), "ann", word="pay"), 6)

    def test_of_a_clear(self):
        told = [most_of(ring_book(), who, word="clear") for who in ["joe", "ann", "bob", "eve"]]
        self.assertEqual(told, [0, 4, 4, 4])
        self.assertEqual(most_of(clear_ring(ring_book(), "ann", 3), "ann", word="clear"), 1)
        self.assertEqual(most_of(payers_book(), "ann", word="clear"), 0)

    def test_the_word_by_its_name_alone(self):
        for word in ["pay", "clear"]:
            with self.assertRaises(TypeError):
                most_of(ring_book(), "ann", word)

    def test_by_the_names_of_the_arguments(self):
        self.assertEqual(most_of(word="clear", who="ann", book=ring_book()), 4)

    def test_nobody_is_refused(self):
        for thing in no_persons():
            for more in [{}, {"word": "pay"}, {"word": "clear"}]:
                with self.assertRaises(NoSuch) as caught:
                    most_of(ring_book(), thing, **more)
                self.assertIs(caught.exception.who, thing)

    def test_just_what_a_step_may_be_of(self):
        for seed in range(40):
            chance = random.Random(seed)
            book = any_book(chance, ["ann", "bob", "eve"], chance.randint(1, 8))
            for who in book.persons():
                for word in ["pay", "clear"]:
                    most = most_of(book, who, word=word)
                    for amount in range(1, most + 1):
                        self.assertEqual(len(stepped(book, (word, who, amount)).persons()), 3)
                    with self.assertRaises((TooMuch, NoRing) if most == 0 else TooMuch):
                        stepped(book, (word, who, most + 1))


class Stepped(Steps):

    def test_a_pay_and_a_clear(self):
        self.assertEqual(stepped(payers_book(), ("pay", "ann", 2)), pay_on(payers_book(), "ann", 2))
        self.assertEqual(stepped(ring_book(), ("clear", "bob", 2)), clear_ring(ring_book(), "bob", 2))

    def test_what_is_no_step(self):
        things = [
            "pay", ("pay",), ("pay", "ann"), ("pay", "ann", 1, 1), ["pay", "ann", 1], ("Pay", "ann", 1), ("pays", "ann", 1),
            ("settle",), ("put", "ann", 1), ("give", "ann", 1), ("", "ann", 1), ("ann", "pay", 1), (1, "ann", "pay"),
            (["pay"], "ann", 1), ({"pay": 1}, "ann", 1), (("pay",), "ann", 1), (None, "ann", 1), (b"pay", "ann", 1),
            (LikeAll(), "ann", 1), LikeAll(), (("pay", "ann", 1),), [("pay", "ann", 1)], {"pay": 1, "ann": 2, "x": 3},
            (True, "ann", 1), ("pay ", "ann", 1), ("pay", "clear"), 1, 0, (set(), {}, []), Book(["ann"]), "pay ann 1",
        ]
        for thing in odd_things() + things:
            with self.subTest(repr(thing)[:50]):
                self.refused(NoStep, lambda: stepped(payers_book(), thing))
                self.refused(NoStep, lambda: by_weaving(payers_book(), [thing]))

    def test_refused_in_order(self):
        self.refused(NoStep, lambda: stepped(ring_book(), ("x", "x", 0)))
        for word in ["pay", "clear"]:
            for thing in no_persons():
                with self.assertRaises(NoSuch) as caught:
                    stepped(ring_book(), (word, thing, 0))
                self.assertIs(caught.exception.who, thing)
            for who in ["ann", "joe"]:
                for thing in NO_AMOUNTS:
                    self.refused(NoAmount, lambda: stepped(ring_book(), (word, who, thing)))
        self.refused(NoRing, lambda: stepped(ring_book(), ("clear", "joe", 99)), who="joe")
        self.refused(TooMuch, lambda: stepped(ring_book(), ("pay", "joe", 99)), who="joe", most=0)
        self.refused(TooMuch, lambda: stepped(ring_book(), ("clear", "bob", 99)), who="bob", most=4)

    def test_by_the_names_of_the_arguments(self):
        self.assertEqual(stepped(step=("pay", "ann", 1), book=payers_book()).fallen("ann"), 1)
        self.assertEqual(pay_on(amount=1, who="ann", book=payers_book()).fallen("ann"), 1)
        self.assertEqual(clear_ring(amount=1, who="ann", book=ring_book()).fallen("eve"), 1)
        self.assertEqual(by_weaving(weaving=[("pay", "ann", 1)], book=payers_book()).fallen("ann"), 1)


class Weavings(Steps):

    def test_one_behind_another(self):
        weaving = [("pay", "ann", 3), ("pay", "bob", 1), ("pay", "ann", 2), ("pay", "bob", 1)]
        book = by_weaving(payers_book(), weaving)
        self.assertEqual(book, payers_book().let_fall({"ann": 5, "bob": 2}))
        self.assertEqual(weaving, [("pay", "ann", 3), ("pay", "bob", 1), ("pay", "ann", 2), ("pay", "bob", 1)])
        book = by_weaving(ring_book(), [("clear", "eve", 1), ("clear", "ann", 3), ("clear", "joe", 1)])
        self.assertEqual(len(book), 2)

    def test_of_no_steps(self):
        self.assertEqual(by_weaving(payers_book(), []), payers_book())

    def test_the_first_refused_step_decides(self):
        elder = payers_book()
        good = ("pay", "ann", 3)
        weavings = [
            ([good, ("pay", "ann", 3), None], TooMuch, {"who": "ann", "most": 2}),
            ([good, None, ("pay", "ann", 3)], NoStep, {}),
            ([("pay", "bob", 3), ("pay", "joe", 1)], TooMuch, {"who": "bob", "most": 0}),
            ([good, ("pay", "bob", 3), ("clear", "ann", 1)], TooMuch, {"who": "bob", "most": 2}),
            ([good, ("clear", "ann", 1), ("pay", "bob", 3)], NoRing, {"who": "ann"}),
            ([good, ("pay", "joe", 0), ("pay", "ann", 0)], NoSuch, {"who": "joe"}),
            ([good, ("pay", "ann", 0), ("pay", "joe", 0)], NoAmount, {}),
        ]
        for weaving, kind, fields in weavings:
            with self.subTest(weaving):
                self.refused(kind, lambda: by_weaving(elder, weaving), **fields)
        self.assertEqual(elder, payers_book())

    def test_the_list_may_be_changed_behind_the_call(self):
        weaving = [("pay", "ann", 3)]
        book = by_weaving(payers_book(), weaving)
        weaving.append(("pay", "ann", 1))
        self.assertEqual(book.fallen("ann"), 3)


class LikeCoins(Steps):

    def ring_of(self, coins, who):
        ring = [who]
        while coins.pile(ring[-1]) and len(ring) <= 5:
            if coins.pile(ring[-1])[0][0] == who:
                return ring
            ring.append(coins.pile(ring[-1])[0][0])
        return None

    def most_of(self, coins, word, who):
        """The greatest amount of a step, or the refusal of a clear, in the plainest way."""
        if word == "pay":
            return min(coins.pile(who)[0][1], coins.cash(who)) if coins.pile(who) else 0
        ring = self.ring_of(coins, who)
        return NoRing if ring is None else min(coins.pile(one)[0][1] for one in ring)

    def step(self, book, coins, step):
        word, who, amount = step
        most = self.most_of(coins, word, who)
        if most is NoRing:
            self.refused(NoRing, lambda: stepped(book, step), who=who)
        elif amount > most:
            self.refused(TooMuch, lambda: stepped(book, step), who=who, most=most)
        else:
            coins.let_fall({one: amount for one in ([who] if word == "pay" else self.ring_of(coins, who))})
            return stepped(book, step)
        return book

    def test_the_same_as_coin_by_coin(self):
        for seed in range(100):
            chance = random.Random(seed)
            persons = chance.sample(["ann", "bob", "eve", "joe", "max"], chance.randint(1, 5))
            book, coins = Book(persons), CoinBook(persons)
            for _ in range(30):
                who, to, amount = chance.choice(persons), chance.choice(persons), chance.randint(1, 4)
                deed = chance.choice(["put", "give", "pay", "pay", "clear", "clear"])
                if deed == "put":
                    book = book.put(who, to, amount)
                    coins.put(who, to, amount)
                elif deed == "give":
                    book = book.give(who, amount)
                    coins.give(who, amount)
                else:
                    book = self.step(book, coins, (deed, who, amount))
                for one in persons:
                    self.assertEqual((book.pile(one), book.cash(one)), (coins.pile(one), coins.cash(one)))


if __name__ == "__main__":
    unittest.main()
