"""Books as texts: a row for each person, and below it a row for each of their notes."""

from ringclear.books import Book
from ringclear.errors import Full, NoAmount, NoBook, NoSuch, NoText, NoVector, Short
from ringclear.figures import figures_of, is_number, is_word, number_of

PERSON = "person"


def person_rows(book, who):
    """The rows of one person, without their line feeds."""
    rows = [f"{PERSON} {who} {figures_of(book.given(who))} {figures_of(book.fallen(who))}"]
    return rows + [f"  {to} {figures_of(amount)}" for to, amount in book.notes(who)]


def book_text(book):
    """The text of a book."""
    rows = [row for who in book.persons() for row in person_rows(book, who)]
    return "".join([row + "\n" for row in rows])


def is_person_row(words):
    """Whether these are the words of a person's row, looked at by itself."""
    if len(words) != 4 or words[0] != PERSON:
        return False
    return is_word(words[1]) and is_number(words[2]) and is_number(words[3])


def is_note_row(words):
    """Whether these are the words of a note's row, looked at by itself."""
    # Split at each blank, the two blanks ahead are two words without signs.
    if len(words) != 4 or words[0] != "" or words[1] != "":
        return False
    return is_word(words[2]) and is_number(words[3])


def split_rows(text):
    """The words of each row; NoText, where a row is none by itself."""
    rows = [row.split(" ") for row in text.split("\n")]
    # What stands behind the last line feed is no row, or a row that lacks its line feed.
    tail = rows.pop()
    for number, words in enumerate(rows, start=1):
        if not is_person_row(words) and not is_note_row(words):
            raise NoText(number)
    if tail != [""]:
        raise NoText(len(rows) + 1)
    return rows


def book_of_rows(rows):
    """The book that these rows tell; refused as books refuse what they are told."""
    book = Book([words[1] for words in rows if is_person_row(words)])
    fallen = {}
    # Nobody goes by this name, so a note ahead of all persons is refused.
    who = ""
    for words in rows:
        if is_person_row(words):
            who = words[1]
            fallen[who] = number_of(words[3])
            given = number_of(words[2])
            # Nothing given is no amount to give.
            if given > 0:
                book = book.give(who, given)
        else:
            book = book.put(who, words[2], number_of(words[3]))
    return book.let_fall(fallen)


def read_book(text):
    """The book of which this is the text."""
    if not isinstance(text, str):
        raise NoText(0)
    rows = split_rows(text)
    try:
        return book_of_rows(rows)
    except (NoBook, NoSuch, NoAmount, Full, NoVector, Short):
        raise NoText(0) from None
