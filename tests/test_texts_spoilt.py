"""Texts that are the text of no book."""

import random
import re
import unittest

from spoiling import spoilt
from things import SIXTY_FIGURES, TWELVE, LikeAll, any_book, fallen_book, odd_things, whole_numbers

from ringclear.books import Book
from ringclear.booktexts import book_text, read_book
from ringclear.errors import BookError, NoText

GOOD = "person ann 5 4\n  bob 3\n  eve 2\nperson bob 0 1\n  ann 1\nperson eve 0 0\n"
NUMBER = "(0|[1-9][0-9]*)"
PERSON_ROW = re.compile("person ([a-z]+) " + NUMBER + " " + NUMBER + "\n")
NOTE_ROW = re.compile("  ([a-z]+) " + NUMBER + "\n")


def cash_by(persons):
    """The cash of all persons of a list (name, given, fallen, notes)."""
    cash = {name: given - fallen for name, given, fallen, _ in persons}
    for _, _, fallen, notes in persons:
        for to, amount in notes:
            cash[to] += min(amount, fallen)
            fallen -= min(amount, fallen)
    return cash


def is_whole(rows):
    """Whether rows that are all rows by themselves tell a book."""
    persons = []
    for row in rows:
        told = PERSON_ROW.fullmatch(row)
        if told:
            persons.append((told[1], int(told[2]), int(told[3]), []))
        elif not persons:
            return False
        else:
            persons[-1][3].append((NOTE_ROW.fullmatch(row)[1], int(NOTE_ROW.fullmatch(row)[2])))
    names = [name for name, _, _, _ in persons]
    notes = [note for _, _, _, some in persons for note in some]
    if not 1 <= len(names) <= 12 or len(set(names)) < len(names) or max(map(len, names)) > 8 or len(notes) > 60:
        return False
    if not all(to in names and amount > 0 for to, amount in notes):
        return False
    if not all(fallen <= sum(amount for _, amount in some) for _, _, fallen, some in persons):
        return False
    return min(cash_by(persons).values()) >= 0


def judged(text):
    """The row that a text is refused with, or None where it is the text of a book."""
    rows = re.findall("[^\n]*\n|[^\n]+", text)
    for number, row in enumerate(rows, start=1):
        if not PERSON_ROW.fullmatch(row) and not NOTE_ROW.fullmatch(row):
            return number
    return None if is_whole(rows) else 0


class Refused(unittest.TestCase):

    def refused(self, text, row):
        with self.subTest(repr(text)[:70]):
            with self.assertRaises(NoText) as caught:
                read_book(text)
            self.assertIs(type(caught.exception.row), int)
            self.assertEqual(caught.exception.row, row)
            self.assertIsInstance(caught.exception, BookError)


class Rows(Refused):

    def test_the_good_one(self):
        self.assertEqual(book_text(read_book(GOOD)), GOOD)

    def test_no_text(self):
        things = [thing for thing in odd_things() if not isinstance(thing, str)]
        for thing in things + whole_numbers() + [GOOD.encode(), [GOOD], (GOOD,), {GOOD: GOOD}, Book(["ann"]), LikeAll()]:
            self.refused(thing, 0)

    def test_no_row(self):
        self.refused("", 0)

    def test_rows_without_anything(self):
        self.refused("\n", 1)
        self.refused("\n\n", 1)
        self.refused("\n" + GOOD, 1)
        self.refused(GOOD + "\n", 7)
        self.refused(GOOD.replace("\nperson bob", "\n\nperson bob"), 4)
        self.refused(" \n", 1)
        self.refused("  \n", 1)
        self.refused("\n" * 12000, 1)

    def test_the_last_line_feed_gone(self):
        self.refused(GOOD[:-1], 6)
        self.refused("person ann 0 0", 1)
        self.refused("person ann 0 0\n  ann 1", 2)
        self.refused("person ann 0 0\n ", 2)
        self.refused("x", 1)

    def test_the_first_row_that_is_none_decides(self):
        self.refused(GOOD.replace("eve 2", "eve 02").replace("ann 1", "ann 01"), 3)
        self.refused(GOOD.replace("ann 1", "ann 01")[:-1], 5)
        self.refused("  joe 0\nperson ann 0 9\nperson ann 1 1 1\n", 3)
        self.refused("  joe 0\nperson ann 0 9\nperson ann 1 1", 3)

    def test_a_person_row_that_is_none(self):
        for row in [
            "person", "person ", "person ann", "person ann 0", "person ann 0 0 0", "person ann 0 0 ", " person ann 0 0",
            "  person ann 0 0", "person  ann 0 0", "person ann  0 0", "person ann 0  0", "Person ann 0 0", "persons ann 0 0",
            "perso ann 0 0", "ann 0 0", "ann person 0 0", "person 0 0 ann", "person 0 ann 0", "person Ann 0 0",
            "person a1 0 0", "person a-b 0 0", "person ann 00 0", "person ann 0 00", "person ann 01 0", "person ann 1 01",
            "person ann +1 0", "person ann -1 0", "person ann 0 -0", "person ann 0 +0", "person ann 1_0 0", "person ann 1.0 0",
            "person ann x 0", "person ann 0 x", "person ann  0", "person  0 0", "person ann 0,0", "person ann\t0 0",
            "person ann 0 0\r", "person ann 0 1e1", "person ann 0x1 0", "person\nann 0 0",
        ]:
            self.refused(row + "\n" + GOOD, 1)
            self.refused("person joe 0 0\n" + row + "\n", 2)

    def test_a_note_row_that_is_none(self):
        for row in [
            "  bob", "  bob ", "bob 3", " bob 3", "   bob 3", "    bob 3", "  bob  3", "  bob 3 ", "  bob 3 4", "  3 bob",
            "  3", "   3", "  bob x", "  bob 03", "  bob 00", "  bob +3", "  bob -3", "  bob 3.", "  Bob 3", "  b0b 3",
            "  b_b 3", "  bob bob", "  bob 3 bob", "\tbob 3", "  bob\t3", "- bob 3", "  note bob 3",
        ]:
            self.refused("person bob 0 0\n" + row + "\n", 2)
            self.refused(GOOD + row + "\n", 7)
            self.refused(row + "\n" + GOOD, 1)


class Wholes(Refused):

    def test_notes_ahead_of_all_persons(self):
        self.refused("  ann 3\n", 0)
        self.refused("  ann 3\nperson ann 0 0\n", 0)
        self.refused("  ann 1\n" + GOOD, 0)

    def test_a_person_again(self):
        self.refused(GOOD + "person ann 0 0\n", 0)
        self.refused("person ann 0 0\nperson ann 0 0\n", 0)

    def test_a_note_to_nobody(self):
        self.refused(GOOD.replace("  eve", "  joe"), 0)
        self.refused("person ann 0 0\n  an 1\n", 0)
        self.refused("person ann 0 0\n  person 1\n", 0)

    def test_a_note_of_0(self):
        self.refused("person ann 0 0\n  ann 0\n", 0)
        self.refused(GOOD + "  eve 0\n", 0)

    def test_sixty_one_notes(self):
        text = "person ann 0 0\n" + "  bob 1\n" * 30 + "person bob 0 0\n" + "  ann 1\n" * 30
        self.assertEqual(len(read_book(text)), 60)
        self.refused(text + "  ann 1\n", 0)
        self.refused("person ann 9 9\n" + "  ann 1\n" * 61, 0)
        self.refused("person ann 0 0\n" + "  ann 1\n" * 1400, 0)

    def test_thirteen_persons(self):
        text = "".join("person " + who + " 0 0\n" for who in TWELVE)
        self.assertEqual(len(read_book(text).persons()), 12)
        self.refused(text + "person x 0 0\n", 0)
        self.refused("person x 0 0\n" + text, 0)

    def test_a_name_of_nine_letters(self):
        self.assertEqual(read_book("person abcdefgh 0 0\n").persons(), ["abcdefgh"])
        self.refused("person abcdefghi 0 0\n", 0)
        self.refused("person ann 0 0\n  abcdefghi 1\n", 0)
        self.refused(GOOD.replace("bob", "a" * 500), 0)

    def test_more_fallen_than_all_notes_come_to(self):
        self.refused("person ann 9 1\n", 0)
        self.refused("person ann 9 4\n  ann 3\n", 0)
        self.assertEqual(read_book("person ann 0 3\n  ann 3\n").pile("ann"), [])
        self.refused("person ann 9 " + str(SIXTY_FIGURES + 1) + "\n  ann " + str(SIXTY_FIGURES) + "\n", 0)

    def test_cash_below_0(self):
        self.refused("person ann 2 3\n  bob 3\nperson bob 0 0\n", 0)
        self.refused("person ann 3 3\n  bob 3\nperson bob 0 4\n  eve 4\nperson eve 0 0\n", 0)
        self.assertEqual(read_book("person ann 3 3\n  bob 3\nperson bob 1 4\n  eve 4\nperson eve 0 0\n").cash("eve"), 4)

    def test_long_numbers_are_numbers(self):
        long = "9" * 5000
        self.refused("person ann " + long + " " + long + "\n", 0)
        self.refused("person ann " + long + " 0\n  ann 0" + long + "\n", 2)


class Spoilt(Refused):

    def test_texts_spoilt_by_chance(self):
        refused = set()
        read = 0
        for seed in range(2500):
            chance = random.Random(seed)
            persons = chance.sample(TWELVE, chance.choice([1, 2, 3, 12]))
            book = any_book(chance, persons, chance.choice([0, 1, 3, 8]))
            text = book_text(fallen_book(chance, book) if chance.random() < 0.7 else book)
            text = spoilt(chance, text)
            row = judged(text)
            if row is None:
                self.assertEqual(book_text(read_book(text)), text)
                read += 1
            else:
                self.refused(text, row)
                refused.add(row)
        self.assertGreater(read, 100)
        self.assertGreaterEqual(refused, {0, 1, 2, 3, 4, 5, 6, 7})


if __name__ == "__main__":
    unittest.main()
