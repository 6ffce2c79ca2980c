"""Forecasts by gifts, and the least gift by which something falls."""

import random
import unittest

from things import SIXTY_FIGURES, TWELVE, LikeAll, any_amount, any_book, book_by_seed, greatest_fallen, no_persons
from things import odd_things, small_book, some_steps, times, turned, vector_of

from ringclear.books import Book
from ringclear.errors import NoAmount, NoSuch
from ringclear.gifts import forecast_of, least_gift, worth_of
from ringclear.settling import settled_book
from ringclear.vectors import greatest_of


def chain():
    """Eve owes bob 3, then ann 4; bob owes ann 5; joe owes nobody."""
    book = Book(["joe", "eve", "bob", "ann"])
    return book.put("eve", "bob", 3).put("eve", "ann", 4).put("bob", "ann", 5)


def left_in_all(book):
    """What all notes left come to."""
    return sum(book.whole_of(who) - book.fallen(who) for who in book.persons())


def given(book, to, gift):
    return book.give(to, gift) if gift > 0 else book


def least_plainly(book, to, of, amount):
    """The least gift, one tried behind the other: for small numbers."""
    for gift in range(left_in_all(book) + 1):
        if greatest_fallen(given(book, to, gift))[of] >= amount:
            return gift
    return None


def figures_by(seed):
    return [1, 3, 60][seed % 3]


def gifts_by_chance(chance, book, figures):
    """A dict from some persons to gifts, some of them 0."""
    some = chance.sample(book.persons(), chance.randint(0, len(book.persons())))
    return {who: chance.choice([0, any_amount(chance, figures)]) for who in some}


class Gifts(unittest.TestCase):

    def refused(self, kind, call, **fields):
        with self.assertRaises(kind) as caught:
            call()
        self.assertIs(type(caught.exception), kind)
        self.assertEqual({name: getattr(caught.exception, name) for name in fields}, fields)

    def no_such(self, thing, call):
        with self.assertRaises(NoSuch) as caught:
            call()
        self.assertIs(caught.exception.who, thing)


class Forecasts(Gifts):

    def test_by_no_gifts_it_is_the_greatest_vector(self):
        for seed in range(45):
            chance, book = book_by_seed(seed, figures_by(seed))
            for gifts in [{}, {who: 0 for who in book.persons()}, {book.persons()[-1]: 0}]:
                told = forecast_of(book, gifts)
                self.assertEqual(told, greatest_of(book))
                self.assertEqual(list(told), book.persons())
            self.assertEqual(forecast_of(settled_book(book), {}), vector_of(settled_book(book)))

    def test_by_drawn_gifts_in_one_or_in_parts(self):
        for seed in range(90):
            figures = figures_by(seed)
            chance, book = book_by_seed(seed, figures)
            gifts = gifts_by_chance(chance, book, figures)
            elders = book.key(), list(gifts.items())
            told = forecast_of(book, gifts)
            self.assertEqual((book.key(), list(gifts.items())), elders)
            one = parts = book
            for who in chance.sample(sorted(gifts), len(gifts)):
                one = given(one, who, gifts[who])
                part = chance.randint(0, gifts[who])
                parts = settled_book(given(given(parts, who, part), who, gifts[who] - part))
            self.assertEqual(told, vector_of(settled_book(one)))
            self.assertEqual(told, vector_of(settled_book(parts)))
            self.assertEqual(told, forecast_of(book, turned(gifts)))
            self.assertEqual(told, forecast_of(some_steps(chance, book, 6), gifts))
            if figures == 1:
                self.assertEqual(told, greatest_fallen(one))

    def test_by_hand(self):
        book = chain()
        self.assertEqual(forecast_of(book, {"eve": 2}), {"joe": 0, "eve": 2, "bob": 2, "ann": 0})
        self.assertEqual(forecast_of(book, {"eve": 5, "bob": 1}), {"joe": 0, "eve": 5, "bob": 4, "ann": 0})
        self.assertEqual(forecast_of(book, {"ann": 9, "joe": 9}), {"joe": 0, "eve": 0, "bob": 0, "ann": 0})

    def test_more_given_nowhere_less_falls(self):
        for seed in range(60):
            figures = figures_by(seed)
            chance, book = book_by_seed(seed, figures)
            gifts = gifts_by_chance(chance, book, figures)
            told = forecast_of(book, gifts)
            for _ in range(4):
                more = {who: gifts.get(who, 0) + chance.choice([0, 1, any_amount(chance, figures)]) for who in TWELVE
                        if book.has(who)}
                other = forecast_of(book, more)
                for who in book.persons():
                    self.assertGreaterEqual(other[who], told[who])
                gifts, told = more, other

    def test_of_sixty_figures(self):
        ring = Book(["ann", "bob"]).put("ann", "bob", SIXTY_FIGURES).put("bob", "ann", SIXTY_FIGURES - 3)
        self.assertEqual(forecast_of(ring, {"ann": 2}), {"ann": SIXTY_FIGURES - 1, "bob": SIXTY_FIGURES - 3})
        self.assertEqual(forecast_of(ring, {"ann": SIXTY_FIGURES})["ann"], SIXTY_FIGURES)


class NoForecasts(Gifts):

    def test_no_dict(self):
        for thing in odd_things() + [0, 3, "eve", [("eve", 1)], LikeAll(), chain()]:
            if not isinstance(thing, dict):
                self.refused(NoAmount, lambda: forecast_of(chain(), thing))

    def test_the_first_key_that_is_no_person(self):
        keys = ["", "x", "Eve", "ev", "evee", None, 0, 1, True, (), ("eve",), b"eve", frozenset(), object(), len]
        for key in keys:
            self.no_such(key, lambda: forecast_of(chain(), {key: 1}))
            self.no_such(key, lambda: forecast_of(chain(), {"eve": 1, key: 1, "y": 2}))
            self.no_such(key, lambda: forecast_of(chain(), {key: 1, "y": 2, "eve": 1}))
            # However wrong the numbers are, the key goes first.
            self.no_such(key, lambda: forecast_of(chain(), {"eve": None, "bob": -1, key: "1"}))
        self.no_such("z", lambda: forecast_of(chain(), {"joe": 0, "z": 0, "y": 0}))
        self.no_such("y", lambda: forecast_of(chain(), {"joe": 0, "y": 0, "z": 0}))

    def test_numbers_that_are_none(self):
        for thing in odd_things() + ["0", "1", "eve", LikeAll(), chain()]:
            self.refused(NoAmount, lambda: forecast_of(chain(), {"eve": thing}))
            self.refused(NoAmount, lambda: forecast_of(chain(), {"joe": 0, "eve": 1, "bob": thing}))
            self.refused(NoAmount, lambda: forecast_of(chain(), {"joe": thing, "eve": 1}))

    def test_what_is_refused_changes_nothing(self):
        book, gifts = chain(), {"eve": 1, "x": 2}
        self.no_such("x", lambda: forecast_of(book, gifts))
        self.assertEqual((book, gifts), (chain(), {"eve": 1, "x": 2}))


class Least(Gifts):

    def least(self, book, to, of, amount):
        """The least gift told, with what is promised of it by the settled books."""
        elder = book.key()
        gift = least_gift(book, to, of, amount=amount)
        if gift is None:
            for much in [0, left_in_all(book), left_in_all(book) * 10 + 1]:
                self.assertLess(settled_book(given(book, to, much)).fallen(of), amount)
        else:
            self.assertIs(type(gift), int)
            self.assertLessEqual(gift, left_in_all(book))
            self.assertGreaterEqual(settled_book(given(book, to, gift)).fallen(of), amount)
            self.assertIs(gift == 0, settled_book(book).fallen(of) >= amount)
            if gift > 0:
                self.assertLess(settled_book(given(book, to, gift - 1)).fallen(of), amount)
        self.assertEqual(book.key(), elder)
        return gift

    def test_by_hand(self):
        book = chain()
        told = [self.least(book, "eve", "eve", amount) for amount in range(8)]
        self.assertEqual(told, [0, 1, 2, 3, 4, 5, 6, 7])
        told = [self.least(book, "eve", "bob", amount) for amount in range(6)]
        self.assertEqual(told, [0, 1, 2, 3, None, None])
        told = [self.least(book, "bob", "bob", amount) for amount in range(6)]
        self.assertEqual(told, [0, 1, 2, 3, 4, 5])
        for to in ["bob", "joe", "ann"]:
            self.assertEqual([self.least(book, to, "eve", amount) for amount in [0, 1, 7]], [0, None, None])
        self.assertEqual(self.least(book, "eve", "joe", 0), 0)

    def test_what_has_fallen_already_is_counted(self):
        book = chain().give("eve", 4)
        for one in [book, settled_book(book), some_steps(random.Random(1), book, 2)]:
            told = [self.least(one, "eve", "eve", amount) for amount in range(8)]
            self.assertEqual(told, [0, 0, 0, 0, 0, 1, 2, 3])

    def test_a_ring_that_comes_behind_a_note(self):
        # With 1 paid to joe, ann's next note closes a ring, which falls away without any further gift.
        book = Book(["ann", "bob", "joe"]).put("ann", "joe", 1).put("ann", "bob", 9).put("bob", "ann", 7)
        told = [self.least(book, "ann", "ann", amount) for amount in [0, 1, 2, 8, 9, 10]]
        self.assertEqual(told, [0, 1, 1, 1, 2, 3])
        self.assertEqual([self.least(book, "ann", "bob", amount) for amount in [0, 1, 7]], [0, 1, 1])
        self.assertEqual([self.least(book, "bob", "bob", amount) for amount in [0, 1, 7]], [0, 1, 1])
        self.assertEqual([self.least(book, "joe", "bob", amount) for amount in [0, 1]], [0, None])

    def test_all_amounts_of_small_books(self):
        nones = greats = 0
        for seed in range(60):
            chance = random.Random(seed)
            book = some_steps(chance, small_book(chance, notes=6), seed % 3)
            for to in book.persons():
                for of in book.persons():
                    for amount in range(book.whole_of(of) + 1):
                        gift = self.least(book, to, of, amount)
                        self.assertEqual(gift, least_plainly(book, to, of, amount))
                        nones += gift is None
                        greats += gift is not None and gift > 1
        self.assertGreater(nones, 50)
        self.assertGreater(greats, 50)

    def test_great_books(self):
        nones = greats = 0
        for seed in range(60):
            chance, book = book_by_seed(seed, [60, 3][seed % 4 == 0])
            for _ in range(3):
                to, of = chance.choice(book.persons()), chance.choice(book.persons())
                whole = book.whole_of(of)
                for amount in [0, chance.randint(0, whole), max(0, whole - 1), whole]:
                    gift = self.least(book, to, of, amount)
                    nones += gift is None
                    greats += gift is not None and gift > 9
        self.assertGreater(nones, 20)
        self.assertGreater(greats, 20)

    def test_twelve_piles_of_five_notes_in_a_row(self):
        for figures in [1, 60]:
            chance = random.Random(figures)
            book = Book(TWELVE)
            for who, to in zip(TWELVE, TWELVE[1:]):
                for _ in range(5):
                    book = book.put(who, to, any_amount(chance, figures))
            for of in TWELVE:
                self.least(book, "l", of, book.whole_of(of))

    def test_amounts_do_not_count(self):
        for seed in range(30):
            chance = random.Random(seed)
            book = any_book(chance, chance.sample(TWELVE, chance.randint(1, 5)), 12, 2)
            factor = 10 ** 57 + 3
            great = times(book, factor)
            for of in book.persons():
                gift = least_gift(book, book.persons()[0], of)
                told = least_gift(great, book.persons()[0], of)
                self.assertEqual(told, None if gift is None else gift * factor)

    def test_amount_left_out_or_none_is_all_their_notes(self):
        for seed in range(40):
            chance, book = book_by_seed(seed, figures_by(seed))
            to, of = chance.choice(book.persons()), chance.choice(book.persons())
            told = self.least(book, to, of, book.whole_of(of))
            self.assertEqual(least_gift(book, to, of), told)
            self.assertEqual(least_gift(book, to, of, amount=None), told)

    def test_a_gift_of_all_notes_left_is_as_good_as_any_greater(self):
        for seed in range(40):
            chance, book = book_by_seed(seed, figures_by(seed))
            for to in book.persons():
                much = left_in_all(book)
                self.assertEqual(forecast_of(book, {to: much}), forecast_of(book, {to: much * 1000 + 1}))


class NoLeast(Gifts):

    def test_amounts_that_are_none(self):
        for thing in [thing for thing in odd_things() if thing is not None] + ["0", "1", LikeAll(), chain()]:
            self.refused(NoAmount, lambda: least_gift(chain(), "eve", "bob", amount=thing))
        for of, whole in [("eve", 7), ("bob", 5), ("joe", 0)]:
            self.assertIsNotNone(least_gift(chain(), of, of, amount=whole))
            for amount in [whole + 1, whole + 2, SIXTY_FIGURES, -1]:
                self.refused(NoAmount, lambda: least_gift(chain(), "joe", of, amount=amount))
            self.refused(NoAmount, lambda: least_gift(settled_book(chain().give("eve", 9)), "joe", of, amount=whole + 1))

    def test_to_ahead_of_of_ahead_of_the_amount(self):
        for thing in no_persons():
            for amount in [None, 0, -1, "1", SIXTY_FIGURES]:
                self.no_such(thing, lambda: least_gift(chain(), thing, "bob", amount=amount))
                self.no_such(thing, lambda: least_gift(chain(), "bob", thing, amount=amount))
                self.no_such(thing, lambda: least_gift(chain(), thing, "nobody", amount=amount))
        self.no_such("x", lambda: least_gift(chain(), "x", "y"))
        self.no_such("y", lambda: least_gift(chain(), "eve", "y", amount=-1))


class Worth(Gifts):

    def test_by_hand(self):
        self.assertEqual([worth_of(chain(), "eve", "eve", number) for number in [0, 1]], [3, 7])
        self.assertEqual(worth_of(chain(), "bob", "bob", 0), 5)
        self.assertIsNone(worth_of(chain(), "eve", "bob", 0))
        self.assertEqual(worth_of(chain().give("eve", 3), "eve", "eve", 0), 0)
        self.assertEqual(worth_of(chain().give("eve", 3), "eve", "eve", 1), 4)

    def test_it_is_the_least_gift_for_all_notes_down_to_it(self):
        for seed in range(60):
            chance, book = book_by_seed(seed, figures_by(seed))
            book = some_steps(chance, book, seed % 4)
            elder = book.key()
            to, of = chance.choice(book.persons()), chance.choice(book.persons())
            amount = 0
            for number, (_, much) in enumerate(book.notes(of)):
                amount += much
                told = worth_of(book, to, of, number)
                self.assertEqual(told, least_gift(book, to, of, amount=amount))
                if told is not None:
                    self.assertGreaterEqual(settled_book(given(book, to, told)).fallen(of), amount)
                if told:
                    self.assertLess(settled_book(given(book, to, told - 1)).fallen(of), amount)
            self.assertEqual(book.key(), elder)

    def test_a_number_that_no_note_has(self):
        for thing in odd_things() + [2, 3, 60, SIXTY_FIGURES, -1, "0", "eve", LikeAll(), chain()]:
            self.no_such(thing, lambda: worth_of(chain(), "joe", "eve", thing))
        self.no_such(0, lambda: worth_of(chain(), "eve", "joe", 0))
        # A note that has fallen keeps its number.
        book = settled_book(chain().give("eve", 9))
        self.assertEqual(worth_of(book, "joe", "eve", 1), 0)
        self.no_such(2, lambda: worth_of(book, "joe", "eve", 2))

    def test_to_ahead_of_of_ahead_of_the_number(self):
        for thing in no_persons():
            for number in [0, 9, None]:
                self.no_such(thing, lambda: worth_of(chain(), thing, "eve", number))
                self.no_such(thing, lambda: worth_of(chain(), "eve", thing, number))
                self.no_such(thing, lambda: worth_of(chain(), thing, "nobody", number))
        self.no_such("y", lambda: worth_of(chain(), "eve", "y", -1))


class Own(Gifts):

    def test_told_dicts_are_the_askers_own(self):
        book, gifts = chain(), {"eve": 2}
        told = forecast_of(book, gifts)
        told["eve"] = 99
        self.assertEqual(forecast_of(book, gifts)["eve"], 2)
        self.assertIsNot(forecast_of(book, gifts), forecast_of(book, gifts))
        self.assertEqual(gifts, {"eve": 2})

    def test_by_the_names_of_the_arguments(self):
        book = chain()
        self.assertEqual(forecast_of(gifts={"eve": 2}, book=book), forecast_of(book, {"eve": 2}))
        self.assertEqual(least_gift(of="bob", to="eve", book=book, amount=2), 2)
        self.assertIsNone(least_gift(of="bob", to="eve", book=book))
        self.assertEqual(worth_of(number=1, of="eve", to="eve", book=book), 7)
        with self.assertRaises(TypeError):
            least_gift(book, "eve", "bob", 2)


if __name__ == "__main__":
    unittest.main()
