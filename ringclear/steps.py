"""Steps, which are pays and clears, and weavings of them."""

from ringclear.books import check_amount
from ringclear.errors import NoRing, NoStep, TooMuch
from ringclear.rings import due_of, ring_of


def most_to_pay(book, who):
    """The greatest amount that a person can pay, or 0."""
    due = due_of(book, who)
    return 0 if due is None else min(due[1], book.cash(who))


def least_due(book, ring):
    """The least amount that is due in a ring."""
    return min([due_of(book, who)[1] for who in ring])


def most_to_clear(book, who):
    """The greatest amount by which the ring that a person is in can be cleared, or 0."""
    ring = ring_of(book, who)
    return 0 if ring is None else least_due(book, ring)


MOSTS = {"pay": most_to_pay, "clear": most_to_clear}


def most_of(book, who, *, word="pay"):
    """The greatest amount of a step of this word, 0 where there is none."""
    measure = MOSTS[word]
    return measure(book, who)


def pay_on(book, who, amount):
    """A book in which a person has paid so much on their due note."""
    most = most_to_pay(book, who)
    check_amount(amount)
    if amount > most:
        raise TooMuch(who, most)
    return book.let_fall({who: amount})


def clear_ring(book, who, amount):
    """A book in which so much has fallen of each due note of the ring that a person is in."""
    ring = ring_of(book, who)
    check_amount(amount)
    if ring is None:
        raise NoRing(who)
    most = least_due(book, ring)
    if amount > most:
        raise TooMuch(who, most)
    return book.let_fall({name: amount for name in ring})


ACTIONS = {"pay": pay_on, "clear": clear_ring}


def is_step(thing):
    """Whether a thing is a tuple of three that begins with the word of a step."""
    if not isinstance(thing, tuple) or len(thing) != 3:
        return False
    # Only a text is looked up, as a thing of another kind may be no key.
    return isinstance(thing[0], str) and thing[0] in ACTIONS


def stepped(book, step):
    """A book in which a step is done."""
    if not is_step(step):
        raise NoStep("a step is a tuple of pay or clear, a person and an amount")
    word, who, amount = step
    action = ACTIONS[word]
    return action(book, who, amount)


def by_weaving(book, weaving):
    """A book in which steps are done one behind another."""
    for step in weaving:
        book = stepped(book, step)
    return book
