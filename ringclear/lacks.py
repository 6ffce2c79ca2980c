"""What persons owe, are owed and lack, and where they are stuck in the end."""

from ringclear.rings import check_person, ends_at
from ringclear.settling import settled_book


def owes_of(book, who):
    """What a person's notes left come to."""
    return sum([amount for to, amount in book.pile(who)])


def owed_to(book, who):
    """What all notes left to a person come to."""
    check_person(book, who)
    return sum([amount for to, amount in book.notes_left() if to == who])


def lack_of(book, who):
    """What a person owes beyond what they are owed and have; 0, where they do not."""
    return max(0, owes_of(book, who) - owed_to(book, who) - book.cash(who))


def all_lacks(book):
    """A dict from all persons to what they lack."""
    return {who: lack_of(book, who) for who in book.persons()}


def is_paid(book):
    """Whether nobody lacks."""
    return all([lack_of(book, who) == 0 for who in book.persons()])


def all_stuck(book):
    """Who has notes left in the settled book, each with the person at whom their trail ends there."""
    end = settled_book(book)
    return [(who, ends_at(end, who)) for who in end.persons() if len(end.pile(who)) > 0]
