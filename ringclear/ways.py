"""Books at a vector, and steps that lead to it."""

from ringclear.books import split_notes
from ringclear.errors import Behind, Short
from ringclear.settling import settling_steps
from ringclear.vectors import ends_by


def check_covered(book, vector):
    """Refuse what is no vector of the book, then one by which somebody would have less than 0."""
    ends = ends_by(book, vector)
    for who in book.persons():
        if ends[who] < 0:
            raise Short(who)


def book_at(book, vector):
    """The same book, but for what has fallen."""
    check_covered(book, vector)
    drops = tuple([vector[who] for who in book.persons()])
    return book.with_these(book.gifts, book.stacks, drops)


def book_down_to(book, vector):
    """The same book without the notes, and the part of a note, that lie below what the vector lets fall."""
    stacks = []
    for who in book.persons():
        gone, left = split_notes(book.notes(who), vector[who])
        stacks.append(tuple(gone))
    return book.with_these(book.gifts, tuple(stacks), book.drops)


def way_to(book, vector):
    """A weaving that leads from the book to a vector."""
    check_covered(book, vector)
    for who in book.persons():
        if vector[who] < book.fallen(who):
            raise Behind(who)
    # With nothing below it the vector is the greatest one, so this book settles to just it; and its steps may be
    # done in the whole book, too, as what lies below changes no due note but by making it greater.
    return settling_steps(book_down_to(book, vector))
