"""Gifts: what falls by them, and the least by which something falls."""

from ringclear.errors import NoAmount, NoSuch
from ringclear.names import is_whole
from ringclear.rings import check_person, due_of, trail_of
from ringclear.settling import settled_book
from ringclear.vectors import greatest_of


def check_gifts(book, gifts):
    """Refuse what is no dict from some persons to whole numbers from 0 on."""
    if not isinstance(gifts, dict):
        raise NoAmount("gifts are a dict from some persons to whole numbers from 0 on")
    for who in gifts:
        check_person(book, who)
    for gift in gifts.values():
        if not is_whole(gift) or gift < 0:
            raise NoAmount("a gift is a whole number from 0 on")


def forecast_of(book, gifts):
    """The vector of what has fallen in the settled book with these gifts given, too."""
    check_gifts(book, gifts)
    for who, gift in gifts.items():
        # A gift of 0 is none that a book could be given.
        if gift > 0:
            book = book.give(who, gift)
    return greatest_of(book)


def next_gift(end, to, of, amount):
    """In a settled book, the least gift by which a note has gone somewhere, or the amount is come to."""
    # All that is given goes along the trail, and rests with the last one, who has nothing to pay.
    payers = trail_of(end, to)[:-1]
    gifts = [due_of(end, who)[1] for who in payers]
    if of in payers:
        gifts.append(amount - end.fallen(of))
    return min(gifts)


def gift_until(book, to, of, amount):
    """The least gift to one by which, in the end, so much of another's notes has fallen; None, where none does it."""
    end = settled_book(book)
    gift = 0
    # From gift to gift at least one note has gone, so there are no more turns than notes, whatever the amounts.
    while end.fallen(of) < amount:
        if due_of(end, to) is None:
            return None
        more = next_gift(end, to, of, amount)
        gift += more
        end = settled_book(end.give(to, more))
    return gift


def least_gift(book, to, of, *, amount=None):
    """The least gift to one by which so much of all notes that another has put has fallen in the settled book."""
    check_person(book, to)
    whole = book.whole_of(of)
    if amount is None:
        amount = whole
    if not is_whole(amount) or amount < 0 or amount > whole:
        raise NoAmount("a whole number from 0 to what all their notes come to")
    return gift_until(book, to, of, amount)


def worth_of(book, to, of, number):
    """The least gift to one by which all of another's note of this number has fallen in the settled book."""
    check_person(book, to)
    notes = book.notes(of)
    if not is_whole(number) or number < 0 or number >= len(notes):
        raise NoSuch(number)
    return gift_until(book, to, of, sum([much for other, much in notes[:number + 1]]))
