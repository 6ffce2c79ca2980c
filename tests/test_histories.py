"""Histories: ledgers as texts, told and read, and texts that are the history of no ledger."""

import random
import re
import unittest

from spoiling import spoilt
from things import SIXTY_FIGURES, TWELVE, LikeAll, any_ledger, do, done, odd_things, whole_numbers

from ringclear.books import Book
from ringclear.errors import BookError, NoText
from ringclear.histories import history_text, read_history
from ringclear.ledgers import Ledger

GOOD = (
    "persons eve bob ann\ngive eve 5\nput eve bob 3\nput bob eve 2\npay eve 1\nclear bob 1\nsettle\nsettle\n"
    "put ann ann 4\nclear ann 4\n"
)
DEEDS = [
    ("give", "eve", 5), ("put", "eve", "bob", 3), ("put", "bob", "eve", 2), ("pay", "eve", 1), ("clear", "bob", 1),
    ("settle",), ("settle",), ("put", "ann", "ann", 4), ("clear", "ann", 4),
]
NUMBER = "(0|[1-9][0-9]*)"
DEED = re.compile("put ([^ ]+) ([^ ]+) " + NUMBER + "|(?:give|pay|clear) ([^ ]+) " + NUMBER + "|settle")
NAME = re.compile("[a-z]{1,8}")


def written(ledger):
    """The history of a ledger, in the plainest way."""
    rows = [" ".join(["persons"] + ledger.book().persons())]
    rows += [" ".join(str(part) for part in deed) for deed in ledger.log()]
    return "\n".join(rows) + "\n"


def judged(text):
    """The row that a text is refused with, or None where it is a history."""
    rows = re.findall("[^\n]*\n|[^\n]+", text)
    if not rows or rows[0][-1] != "\n":
        return 1
    first, *names = rows[0][:-1].split(" ")
    if first != "persons" or not 1 <= len(names) <= 12 or len(set(names)) < len(names):
        return 1
    if not all(NAME.fullmatch(name) for name in names):
        return 1
    book = Book(names)
    for number, row in enumerate(rows[1:], start=2):
        if row[-1] != "\n" or not DEED.fullmatch(row[:-1]):
            return number
        try:
            book = done(book, tuple(int(word) if word.isdigit() else word for word in row.split()))
        except (ValueError, LookupError, RuntimeError):
            return number
    return None


class Told(unittest.TestCase):

    def test_row_by_row(self):
        ledger = Ledger(["eve", "bob", "ann"])
        rows = GOOD.splitlines(keepends=True)
        self.assertEqual(history_text(ledger), rows[0])
        for number, deed in enumerate(DEEDS, start=2):
            do(ledger, deed)
            self.assertEqual(history_text(ledger), "".join(rows[:number]))
        for number in range(len(DEEDS), 0, -1):
            ledger.back()
            self.assertEqual(history_text(ledger), "".join(rows[:number]))

    def test_what_is_refused_is_no_row(self):
        ledger = read_history(GOOD)
        for deed in [("pay", "eve", 99), ("clear", "eve", 1), ("give", "joe", 1), ("put", "eve", "bob", 0)]:
            with self.assertRaises((RuntimeError, LookupError, ValueError)):
                do(ledger, deed)
        self.assertEqual(history_text(ledger), GOOD)

    def test_amounts_of_one_to_sixty_figures(self):
        for figures in range(1, 61):
            amount = int("9" * figures)
            ledger = Ledger(["ann", "bob"])
            for deed in [("give", "ann", amount), ("put", "ann", "bob", amount), ("pay", "ann", amount)]:
                do(ledger, deed)
            text = f"persons ann bob\ngive ann {amount}\nput ann bob {amount}\npay ann {amount}\n"
            self.assertEqual(history_text(ledger), text)
            self.assertEqual(read_history(text).log(), ledger.log())

    def test_noughts_within_a_number(self):
        ledger = Ledger(["ann"])
        ledger.give("ann", 10 ** 60 + 7)
        self.assertEqual(history_text(ledger), "persons ann\ngive ann 1" + "0" * 59 + "7\n")
        self.assertEqual(read_history(history_text(ledger)).log(), [("give", "ann", 10 ** 60 + 7)])

    def test_weaving_is_told_step_by_step(self):
        ledger = Ledger(["ann", "bob"])
        ledger.put("ann", "bob", 3)
        ledger.give("ann", 3)
        ledger.weave([("pay", "ann", 1), ("pay", "ann", 2)])
        self.assertEqual(history_text(ledger), "persons ann bob\nput ann bob 3\ngive ann 3\npay ann 1\npay ann 2\n")


class Read(unittest.TestCase):

    def same(self, one, other):
        """Whether two ledgers stand alike, and did so ahead of each deed."""
        self.assertIsInstance(other, Ledger)
        self.assertEqual(one.log(), other.log())
        self.assertEqual([type(deed) for deed in other.log()], [tuple] * len(other))
        for many in range(len(one) + 1):
            elder, younger = one.copied(), other.copied()
            elder.back(many)
            younger.back(many)
            self.assertEqual((elder.log(), elder.book()), (younger.log(), younger.book()))

    def test_the_good_one(self):
        ledger = read_history(GOOD)
        self.assertEqual(ledger.log(), DEEDS)
        self.assertEqual(history_text(ledger), GOOD)

    def test_ledgers_by_chance_also_taken_back(self):
        for seed in range(60):
            chance = random.Random(seed)
            ledger = any_ledger(chance, chance.sample(TWELVE, chance.randint(1, 12)), chance.choice([0, 3, 20, 60]),
                                [1, 2, 60][seed % 3])
            ledger.back(chance.randint(0, min(5, len(ledger))))
            text = history_text(ledger)
            self.assertEqual(text, written(ledger))
            self.same(ledger, read_history(text))

    def test_words_of_rows_as_names(self):
        ledger = Ledger(["persons", "put", "settle", "pay", "clear", "give"])
        ledger.put("put", "settle", 1)
        ledger.put("settle", "put", 1)
        ledger.step(("clear", "settle", 1))
        ledger.settle()
        self.same(ledger, read_history(history_text(ledger)))

    def test_sixty_notes_and_twelve_persons(self):
        text = "persons " + " ".join(TWELVE) + "\n" + "put a l 1\n" * 60
        self.assertEqual(len(read_history(text)), 60)

    def test_no_two_read_are_one(self):
        one, other = read_history(GOOD), read_history(GOOD)
        one.give("eve", 1)
        self.assertEqual(history_text(other), GOOD)

    def test_by_the_names_of_the_arguments(self):
        self.assertEqual(history_text(ledger=read_history(text=GOOD)), GOOD)
        with self.assertRaises(NoText):
            read_history(text=None)


class Refused(unittest.TestCase):

    def refused(self, text, row):
        with self.subTest(repr(text)[:70]):
            with self.assertRaises(NoText) as caught:
                read_history(text)
            self.assertIs(type(caught.exception), NoText)
            self.assertIs(type(caught.exception.row), int)
            self.assertEqual(caught.exception.row, row)
            self.assertIsInstance(caught.exception, BookError)


class FirstRows(Refused):

    def test_no_text(self):
        things = [thing for thing in odd_things() if not isinstance(thing, str)] + whole_numbers()
        for thing in things + [GOOD.encode(), [GOOD], (GOOD,), {GOOD: GOOD}, Ledger(["ann"]), Book(["ann"]), LikeAll()]:
            self.refused(thing, 0)

    def test_without_signs_and_without_a_line_feed(self):
        for text in ["", "\n", "\n\n", " ", " \n", "persons", "persons ", "persons ann", "persons ann bob", "x", "settle"]:
            self.refused(text, 1)

    def test_a_first_row_that_is_none(self):
        for row in [
            "persons", "persons ", " persons ann", "persons  ann", "persons ann ", "persons ann  bob", "person ann",
            "Persons ann", "ann", "ann bob", "persons ann Bob", "persons ann b1", "persons 1", "persons a-b",
            "persons ann bob ann", "persons ann ann", "persons abcdefghi", "persons ann abcdefghi", "persons\tann",
            "persons " + " ".join(TWELVE + ["x"]), "settle", "give ann 1", "put ann ann 1", "persons,ann", "",
        ]:
            self.refused(row + "\n", 1)
            self.refused(row + "\n" + GOOD, 1)
            self.refused(row + "\n" + "settle\n", 1)

    def test_twelve_persons_and_eight_letters_may_be(self):
        for row in ["persons " + " ".join(TWELVE), "persons abcdefgh", "persons persons"]:
            self.assertEqual(history_text(read_history(row + "\n")), row + "\n")

    def test_persons_again(self):
        self.refused("persons ann\npersons ann\n", 2)
        self.refused(GOOD + "persons eve bob ann\n", 11)
        self.refused(GOOD + GOOD, 11)


class Rows(Refused):

    def test_the_last_line_feed_gone(self):
        self.refused(GOOD[:-1], 10)
        self.refused("persons ann\nsettle", 2)
        self.refused("persons ann\n ", 2)
        self.refused("persons ann\nx", 2)
        for row in range(1, 11):
            self.refused("".join(GOOD.splitlines(keepends=True)[:row])[:-1], row)

    def test_rows_without_anything(self):
        self.refused(GOOD + "\n", 11)
        self.refused("\n" + GOOD, 1)
        self.refused(GOOD.replace("settle\n", "\nsettle\n", 1), 7)
        self.refused("persons ann\n\n", 2)

    def test_a_row_that_is_none(self):
        for row in [
            "settle ", " settle", "settle eve", "settle 1", "Settle", "settled", "put eve bob", "put eve bob ", "put eve 3",
            "put eve bob 3 ", "put eve bob 3 4", "put  eve bob 3", "put eve  bob 3", "put eve bob 03", "put eve bob +3",
            "put eve bob -3", "put eve bob x", "put eve bob 3.", "put eve bob 0", "put joe bob 3", "put eve joe 3",
            "put Eve bob 3", "put 3 eve bob", "give eve", "give eve ", "give eve 0", "give eve 00", "give eve 01",
            "give eve -1", "give eve 1 1", "give joe 1", "give 1 eve", "give eve bob 1", "pay eve", "pay eve 0", "pay joe 1",
            "pay eve 99", "pay eve 1 1", "pay ann 1", "clear eve 0", "clear joe 1", "clear eve", "clear ann 1", "clear 1",
            "back 1", "back", "open eve", "weave pay eve 1", "note eve bob 3", "  bob 3", "person eve 0 0", "0", "eve",
            "GIVE eve 1", "give\teve 1", "give eve 1_0", "give eve 1e1", "give eve 0x1", "put eve bob bob 3",
        ]:
            self.refused(GOOD + row + "\n", 11)
            self.refused(GOOD + row + "\n" + "settle\n", 11)
            self.refused(GOOD + row, 11)
            self.refused("persons eve bob ann\n" + row + "\n" + "nothing\n", 2)

    def test_a_deed_that_is_refused_at_its_place(self):
        # Each of these would be done at another place.
        self.refused(GOOD.replace("give eve 5\n", ""), 4)
        self.refused(GOOD.replace("put bob eve 2\n", ""), 5)
        self.refused(GOOD.replace("put eve bob 3\nput bob eve 2\npay eve 1\n", "pay eve 1\nput eve bob 3\n"), 3)
        self.refused(GOOD.replace("pay eve 1\n", "pay eve 4\n"), 5)
        self.refused(GOOD.replace("clear bob 1\n", "clear bob 3\n"), 6)
        self.refused(GOOD.replace("clear bob 1\nsettle\n", "settle\nclear bob 1\n"), 7)
        self.refused(GOOD.replace("put ann ann 4\nclear ann 4\n", "clear ann 4\nput ann ann 4\n"), 9)
        self.refused(GOOD + "clear ann 4\n", 11)

    def test_a_sixty_first_note(self):
        text = "persons ann bob\n" + "put ann bob 1\n" * 60
        self.assertEqual(len(read_history(text)), 60)
        self.refused(text + "put ann bob 1\n", 62)
        self.refused(text + "settle\nput bob ann 1\n", 63)
        self.refused(text + "give ann 60\nsettle\nput bob ann 1\n", 64)

    def test_long_numbers(self):
        self.refused("persons ann\ngive ann 0" + "9" * 5000 + "\n", 2)
        self.refused(f"persons ann bob\ngive ann {SIXTY_FIGURES}\nput ann bob {SIXTY_FIGURES}\npay ann {SIXTY_FIGURES + 1}\n", 4)

    def test_the_first_wrong_row_decides(self):
        self.refused(GOOD.replace("pay eve 1", "pay eve 9").replace("clear ann 4", "clear ann 9"), 5)
        self.refused(GOOD.replace("clear bob 1", "clear bob 01")[:-1], 6)


class Spoilt(Refused):

    def test_histories_spoilt_by_chance(self):
        refused = set()
        read = 0
        for seed in range(2500):
            chance = random.Random(seed)
            persons = chance.sample(TWELVE, chance.choice([1, 2, 3, 12]))
            text = spoilt(chance, history_text(any_ledger(chance, persons, chance.choice([0, 2, 6, 15]))))
            row = judged(text)
            if row is None:
                self.assertEqual(history_text(read_history(text)), text)
                read += 1
            else:
                self.refused(text, row)
                refused.add(row)
        self.assertGreater(read, 200)
        self.assertGreaterEqual(refused, set(range(1, 13)))


if __name__ == "__main__":
    unittest.main()
