"""Ledgers: a book with all that was done to come to it."""

from ringclear.books import Book
from ringclear.errors import NoBack
from ringclear.names import is_whole
from ringclear.settling import settled_book
from ringclear.steps import stepped


class Ledger:
    """A book that deeds are done to, and its log."""

    # A book is a value, so the one ahead of each deed is kept, and nothing is done again to go back.

    def __init__(self, persons):
        self.books = [Book(persons)]
        self.deeds = []

    def note_down(self, book, deed):
        """Keep the book that a deed has led to, and the deed."""
        self.books.append(book)
        self.deeds.append(deed)

    def book(self):
        """The book as it stands."""
        return self.books[-1]

    def log(self):
        """All deeds, in order."""
        return list(self.deeds)

    def put(self, who, to, amount):
        """Put a note below all others of the one who owes."""
        self.note_down(self.book().put(who, to, amount), ("put", who, to, amount))

    def give(self, who, amount):
        """Give so much to a person."""
        self.note_down(self.book().give(who, amount), ("give", who, amount))

    def step(self, step):
        """Do a step."""
        self.note_down(stepped(self.book(), step), step)

    def weave(self, weaving):
        """Do steps one behind another, up to the first that is refused; how many were done."""
        for step in weaving:
            self.step(step)
        return len(weaving)

    def settle(self):
        """Settle the book."""
        self.note_down(settled_book(self.book()), ("settle",))

    def back(self, many=1):
        """Take so many deeds back."""
        if not is_whole(many) or many < 0 or many > len(self.deeds):
            raise NoBack("a whole number from 0 to how many deeds there are")
        left = len(self.deeds) - many
        self.deeds = self.deeds[:left]
        self.books = self.books[:left + 1]

    def copied(self):
        """A ledger that stands alike, and goes its own way."""
        other = Ledger(self.book().persons())
        other.books = list(self.books)
        other.deeds = list(self.deeds)
        return other

    def __len__(self):
        return len(self.deeds)
