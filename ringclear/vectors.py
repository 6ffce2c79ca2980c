"""Vectors: what might have fallen of each person's notes, and what each would then have."""

from ringclear.books import split_notes
from ringclear.errors import NoVector
from ringclear.names import is_whole
from ringclear.settling import settled_book


def is_vector(book, thing):
    """Whether a thing is a dict from just all persons to what might have fallen of their notes."""
    if not isinstance(thing, dict) or len(thing) != len(book.persons()):
        return False
    for who, much in thing.items():
        if not book.has(who) or not is_whole(much):
            return False
        if much < 0 or much > book.whole_of(who):
            return False
    return True


def check_vector(book, thing):
    """Refuse what is no vector of the book."""
    if not is_vector(book, thing):
        raise NoVector("no dict from just all persons to what might have fallen of their notes")


def fallen_of(book):
    """The vector of what has fallen."""
    return {who: book.fallen(who) for who in book.persons()}


def ends_by(book, vector):
    """What each person would have by a vector, perhaps below 0."""
    check_vector(book, vector)
    ends = {who: book.given(who) - vector[who] for who in book.persons()}
    for who in book.persons():
        gone, left = split_notes(book.notes(who), vector[who])
        for to, part in gone:
            ends[to] += part
    return ends


def is_covered(book, vector):
    """Whether nobody would have less than 0 by a vector."""
    ends = ends_by(book, vector)
    return all([ends[who] >= 0 for who in ends])


def greatest_of(book):
    """The greatest of all covered vectors."""
    # It is what has fallen in the end, so none has to be looked for.
    return fallen_of(settled_book(book))


def joined_of(book, one, other):
    """The vector that has, person by person, the greater number of both."""
    check_vector(book, one)
    check_vector(book, other)
    return {who: max(one[who], other[who]) for who in book.persons()}
