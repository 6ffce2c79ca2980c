"""Due notes, rings and trails."""

import random
import unittest

from things import SIXTY_FIGURES, TWELVE, any_book, fallen_book, no_persons

from ringclear.books import Book
from ringclear.errors import NoSuch
from ringclear.rings import all_rings, due_of, ends_at, ring_of, trail_of

ASKED_OF_ONE = [due_of, ring_of, trail_of, ends_at]


def led_book(persons, leads):
    """A book in which each of these texts, like ann>bob, is a note of 3."""
    book = Book(persons)
    for lead in leads:
        who, to = lead.split(">")
        book = book.put(who, to, 3)
    return book


def steps_on(book, who, many):
    """The person that is come to from a person by so many due notes; None, where there are not so many."""
    for _ in range(many):
        if not book.pile(who):
            return None
        who = book.pile(who)[0][0]
    return who


def plain_ring(book, who):
    """The ring of a person: tried by each length, and turned by hand."""
    for many in range(1, 13):
        if steps_on(book, who, many) == who:
            ring = [steps_on(book, who, number) for number in range(many)]
            while ring[0] != min(ring, key=book.persons().index):
                ring.append(ring.pop(0))
            return ring
    return None


def plain_trail(book, who):
    """The trail of a person: all that is come to by thirteen due notes, each once."""
    return list(dict.fromkeys(one for one in [steps_on(book, who, many) for many in range(14)] if one is not None))


class Dues(unittest.TestCase):

    def test_of_an_empty_pile(self):
        book = Book(["ann", "bob"]).give("ann", 3).put("ann", "bob", 3)
        self.assertIsNone(due_of(book, "bob"))
        self.assertIsNone(due_of(book.let_fall({"ann": 3}), "ann"))

    def test_the_uppermost_what_is_left_of_it(self):
        book = Book(["ann", "bob", "eve"]).give("ann", 9).put("ann", "bob", 3).put("ann", "eve", 2).put("ann", "ann", 4)
        told = [due_of(book.let_fall({"ann": much}), "ann") for much in range(10)]
        bobs, eves, anns = [("bob", 3), ("bob", 2), ("bob", 1)], [("eve", 2), ("eve", 1)], [("ann", 4), ("ann", 3)]
        self.assertEqual(told, bobs + eves + anns + [("ann", 2), ("ann", 1), None])
        self.assertIs(type(told[1]), tuple)

    def test_of_sixty_figures(self):
        book = Book(["ann"]).put("ann", "ann", SIXTY_FIGURES).let_fall({"ann": 1})
        self.assertEqual(due_of(book, "ann"), ("ann", SIXTY_FIGURES - 1))


class Rings(unittest.TestCase):

    def test_none(self):
        book = led_book(["ann", "bob", "eve"], ["ann>bob", "bob>eve"])
        self.assertEqual([ring_of(book, who) for who in book.persons()], [None] * 3)
        self.assertEqual(all_rings(book), [])
        self.assertEqual(all_rings(Book(TWELVE)), [])

    def test_a_note_to_oneself(self):
        book = led_book(["ann", "bob"], ["bob>bob", "ann>bob"])
        self.assertEqual((ring_of(book, "bob"), ring_of(book, "ann")), (["bob"], None))
        self.assertEqual(all_rings(book), [["bob"]])

    def test_only_due_notes_go_round(self):
        book = led_book(["ann", "bob", "eve"], ["ann>eve", "ann>bob", "bob>ann"]).give("ann", 3)
        self.assertEqual((all_rings(book), ring_of(book, "ann")), ([], None))
        book = book.let_fall({"ann": 3})
        self.assertEqual((all_rings(book), ring_of(book, "bob")), ([["ann", "bob"]], ["ann", "bob"]))

    def test_it_begins_with_its_first_person_in_order(self):
        book = led_book(["eve", "ann", "joe", "bob"], ["ann>bob", "bob>eve", "eve>ann"])
        for who in ["ann", "bob", "eve"]:
            self.assertEqual(ring_of(book, who), ["eve", "ann", "bob"])
        self.assertIsNone(ring_of(book, "joe"))
        self.assertEqual(all_rings(book), [["eve", "ann", "bob"]])

    def test_of_one_to_twelve_persons(self):
        for many in range(1, 13):
            chance = random.Random(many)
            ring = chance.sample(TWELVE, many)
            book = led_book(TWELVE, [one + ">" + to for one, to in zip(ring, ring[1:] + ring[:1])])
            while ring[0] != min(ring, key=TWELVE.index):
                ring.append(ring.pop(0))
            with self.subTest(many):
                self.assertEqual(all_rings(book), [ring])
                for who in TWELVE:
                    self.assertEqual(ring_of(book, who), ring if who in ring else None)

    def test_several_by_their_first_persons(self):
        book = led_book(["ann", "bob", "eve", "joe", "max"], ["max>bob", "bob>max", "joe>joe", "ann>eve", "eve>ann"])
        self.assertEqual(all_rings(book), [["ann", "eve"], ["bob", "max"], ["joe"]])
        book = led_book(TWELVE, [who + ">" + who for who in TWELVE])
        self.assertEqual(all_rings(book), [[who] for who in TWELVE])

    def test_who_only_leads_into_a_ring_is_in_none(self):
        book = led_book(["ann", "bob", "eve", "joe"], ["ann>bob", "bob>eve", "eve>joe", "joe>eve"])
        self.assertEqual([ring_of(book, who) for who in book.persons()], [None, None, ["eve", "joe"], ["eve", "joe"]])
        self.assertEqual(all_rings(book), [["eve", "joe"]])


class Trails(unittest.TestCase):

    def test_of_an_empty_pile(self):
        book = Book(["ann", "bob"]).put("bob", "ann", 1)
        self.assertEqual((trail_of(book, "ann"), ends_at(book, "ann")), (["ann"], "ann"))

    def test_to_somebody_with_an_empty_pile(self):
        book = led_book(["ann", "bob", "eve"], ["ann>eve", "eve>bob"])
        self.assertEqual([trail_of(book, who) for who in book.persons()], [["ann", "eve", "bob"], ["bob"], ["eve", "bob"]])
        self.assertEqual([ends_at(book, who) for who in book.persons()], ["bob"] * 3)

    def test_round_and_into_a_ring(self):
        book = led_book(["ann", "bob", "eve", "joe"], ["joe>ann", "ann>eve", "eve>bob", "bob>ann"])
        self.assertEqual(trail_of(book, "ann"), ["ann", "eve", "bob"])
        self.assertEqual(trail_of(book, "bob"), ["bob", "ann", "eve"])
        self.assertEqual(trail_of(book, "joe"), ["joe", "ann", "eve", "bob"])
        self.assertEqual([ends_at(book, who) for who in book.persons()], [None] * 4)

    def test_a_note_to_oneself(self):
        book = led_book(["ann", "bob"], ["ann>ann", "bob>ann"])
        self.assertEqual((trail_of(book, "ann"), ends_at(book, "ann")), (["ann"], None))
        self.assertEqual((trail_of(book, "bob"), ends_at(book, "bob")), (["bob", "ann"], None))

    def test_of_twelve_persons(self):
        book = led_book(TWELVE, [one + ">" + to for one, to in zip(TWELVE, TWELVE[1:])])
        for number, who in enumerate(TWELVE):
            self.assertEqual((trail_of(book, who), ends_at(book, who)), (TWELVE[number:], "a"))
        book = book.put("a", "l", 1)
        for number, who in enumerate(TWELVE):
            self.assertEqual((trail_of(book, who), ends_at(book, who)), (TWELVE[number:] + TWELVE[:number], None))


class All(unittest.TestCase):

    def test_of_books_by_chance(self):
        for seed in range(200):
            chance = random.Random(seed)
            persons = chance.sample(TWELVE, chance.randint(1, 12))
            book = any_book(chance, persons, chance.choice([3, 8, 12, 30]), figures=chance.choice([1, 60]))
            if seed % 2:
                book = fallen_book(chance, book)
            rings = [plain_ring(book, who) for who in persons]
            with self.subTest(seed):
                self.assertEqual([due_of(book, who) for who in persons], [(book.pile(w) or [None])[0] for w in persons])
                self.assertEqual([ring_of(book, who) for who in persons], rings)
                self.assertEqual([trail_of(book, who) for who in persons], [plain_trail(book, who) for who in persons])
                last = [(who, plain_trail(book, who)[-1]) for who in persons]
                self.assertEqual([ends_at(book, who) for who in persons], [None if book.pile(w) else w for _, w in last])
                self.assertEqual(all_rings(book), [ring for who, ring in zip(persons, rings) if ring and ring[0] == who])

    def test_nobody_is_refused(self):
        book = led_book(["ann", "bob"], ["ann>bob", "bob>ann"])
        for ask in ASKED_OF_ONE:
            for thing in no_persons():
                with self.subTest(ask=ask.__name__, thing=repr(thing)[:50]), self.assertRaises(NoSuch) as caught:
                    ask(book, thing)
                self.assertIs(caught.exception.who, thing)

    def test_told_lists_are_the_askers_own(self):
        book = led_book(["ann", "bob", "eve"], ["ann>bob", "bob>ann", "eve>eve"])
        for ask in [lambda: ring_of(book, "ann"), lambda: trail_of(book, "ann"), lambda: all_rings(book)]:
            elder, told = repr(ask()), ask()
            self.assertIsNot(told, ask())
            if isinstance(told[0], list):
                self.assertIsNot(told[0], ask()[0])
                self.assertIsNot(told[0], ring_of(book, "ann"))
                told[0].append("eve")
                told[1].clear()
            told.reverse()
            told.append("joe")
            self.assertEqual(repr(ask()), elder)
        self.assertEqual(book, led_book(["ann", "bob", "eve"], ["ann>bob", "bob>ann", "eve>eve"]))

    def test_by_the_names_of_the_arguments(self):
        book = led_book(["ann", "bob"], ["ann>bob", "bob>ann"])
        told = [ask(who="bob", book=book) for ask in ASKED_OF_ONE]
        self.assertEqual(told, [("ann", 3), ["ann", "bob"], ["bob", "ann"], None])
        self.assertEqual(all_rings(book=book), [["ann", "bob"]])


if __name__ == "__main__":
    unittest.main()
