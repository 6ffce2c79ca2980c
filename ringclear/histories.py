"""Histories: ledgers as texts, a row for the persons, and a row for each deed."""

from ringclear.deeds import do_deed, is_deed
from ringclear.errors import Full, NoAmount, NoBook, NoRing, NoSuch, NoText, TooMuch
from ringclear.figures import figures_of
from ringclear.ledgers import Ledger

PERSONS = "persons"


def row_of(parts):
    """The row of these words and numbers, with its line feed."""
    words = [part if isinstance(part, str) else figures_of(part) for part in parts]
    return " ".join(words) + "\n"


def history_text(ledger):
    """The history of a ledger."""
    first = row_of([PERSONS] + ledger.book().persons())
    return first + "".join([row_of(deed) for deed in ledger.log()])


def read_persons(row):
    """A ledger of the persons in the first row."""
    words = row.split(" ")
    if words[0] != PERSONS:
        raise NoText(1)
    try:
        return Ledger(words[1:])
    except NoBook:
        raise NoText(1) from None


def read_deed(ledger, row, number):
    """Do to a ledger what a row tells, the row being of this number."""
    words = row.split(" ")
    if not is_deed(words):
        raise NoText(number)
    try:
        do_deed(ledger, words)
    except (NoSuch, NoAmount, Full, NoRing, TooMuch):
        raise NoText(number) from None


def read_history(text):
    """The ledger of which this is the history."""
    if not isinstance(text, str):
        raise NoText(0)
    rows = text.split("\n")
    # Behind the last line feed stands nothing, or a row that lacks its line feed.
    tail = rows.pop()
    if len(rows) == 0:
        raise NoText(1)
    ledger = read_persons(rows[0])
    for number, row in enumerate(rows[1:], start=2):
        read_deed(ledger, row, number)
    if tail != "":
        raise NoText(len(rows) + 1)
    return ledger
