"""A desk: ledgers by names, and rows of words that ask for something of them."""

from ringclear.deeds import do_deed, is_deed
from ringclear.errors import NoRow, NoSuch
from ringclear.figures import figures_of, is_number, number_of
from ringclear.gifts import least_gift
from ringclear.histories import history_text
from ringclear.lacks import all_stuck, is_paid, lack_of, owes_of
from ringclear.ledgers import Ledger
from ringclear.names import is_name
from ringclear.rings import all_rings

DONE = "ok"
OPENING = "open"
COPYING = "copy"


def tell_back(ledger, words):
    """Take deeds back; how many there are then."""
    ledger.back(number_of(words[0]))
    return figures_of(len(ledger))


def tell_cash(ledger, words):
    """What a person has in hand."""
    return figures_of(ledger.book().cash(words[0]))


def tell_owes(ledger, words):
    """What a person owes."""
    return figures_of(owes_of(ledger.book(), words[0]))


def tell_lacks(ledger, words):
    """What a person lacks."""
    return figures_of(lack_of(ledger.book(), words[0]))


def tell_fallen(ledger, words):
    """What has fallen of a person's notes."""
    return figures_of(ledger.book().fallen(words[0]))


def tell_pile(ledger, words):
    """What is left of a person's notes."""
    return " ".join([f"{to} {figures_of(amount)}" for to, amount in ledger.book().pile(words[0])])


def tell_rings(ledger, words):
    """All rings."""
    return " ".join([">".join(ring) for ring in all_rings(ledger.book())])


def tell_stuck(ledger, words):
    """Who is stuck, and at whom."""
    return " ".join([f"{who}>{at}" for who, at in all_stuck(ledger.book())])


def tell_paid(ledger, words):
    """Whether nobody lacks."""
    return "yes" if is_paid(ledger.book()) else "no"


def tell_gift(ledger, words):
    """The least gift to the first by which so much of the second's notes has fallen."""
    gift = least_gift(ledger.book(), words[0], words[1], amount=number_of(words[2]))
    return "never" if gift is None else figures_of(gift)


def tell_history(ledger, words):
    """The history of a ledger."""
    return history_text(ledger)


ANSWERS = {
    "back": tell_back, "cash": tell_cash, "owes": tell_owes, "lacks": tell_lacks, "fallen": tell_fallen,
    "pile": tell_pile, "rings": tell_rings, "stuck": tell_stuck, "paid": tell_paid, "gift": tell_gift,
    "history": tell_history,
}
# How many words stand behind the name; and of which rows the last of these is a number.
BEHIND = {
    "back": 1, "cash": 1, "owes": 1, "lacks": 1, "fallen": 1, "pile": 1, "rings": 0, "stuck": 0, "paid": 0, "gift": 3,
    "history": 0,
}
NUMBERED = ("back", "gift")


def is_ask(word, rest):
    """Whether this word, with the others behind the name, asks for something of one ledger."""
    if word not in ANSWERS or len(rest) != BEHIND[word]:
        return False
    return word not in NUMBERED or is_number(rest[-1])


def is_row(words):
    """Whether words are those of a row, whether or not it would be refused."""
    if "" in words or len(words) < 2:
        return False
    word, rest = words[0], words[2:]
    if word == OPENING:
        return len(rest) >= 1
    if word == COPYING:
        return len(rest) == 1
    return is_deed([word] + rest) or is_ask(word, rest)


def words_of(row):
    """The words of a row."""
    if not isinstance(row, str) or "\n" in row or not is_row(row.split(" ")):
        raise NoRow("no row that a desk knows")
    return row.split(" ")


def check_name(name):
    """Refuse what no ledger can be kept by."""
    if not is_name(name):
        raise NoSuch(name)


class Desk:
    """Ledgers that are kept by names."""

    def __init__(self):
        self.ledgers = {}

    def kept(self, name):
        """The ledger that is kept by a name."""
        if name not in self.ledgers:
            raise NoSuch(name)
        return self.ledgers[name]

    def say(self, row):
        """The answer to a row."""
        words = words_of(row)
        word, name, rest = words[0], words[1], words[2:]
        if word == OPENING:
            check_name(name)
            self.ledgers[name] = Ledger(rest)
            return DONE
        ledger = self.kept(name)
        if word == COPYING:
            check_name(rest[0])
            self.ledgers[rest[0]] = ledger.copied()
            return DONE
        if word in ANSWERS:
            answer = ANSWERS[word]
            return answer(ledger, rest)
        do_deed(ledger, [word] + rest)
        return DONE
