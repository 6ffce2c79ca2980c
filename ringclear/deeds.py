"""Deeds as they are written, in words."""

from ringclear.figures import is_number, number_of

# How many words each deed has, its own one counted.
LENGTHS = {"put": 4, "give": 3, "pay": 3, "clear": 3, "settle": 1}


def is_deed(words):
    """Whether these are the words of a deed, whether or not it would be refused."""
    if words[0] not in LENGTHS or len(words) != LENGTHS[words[0]]:
        return False
    return words[0] == "settle" or is_number(words[-1])


def do_deed(ledger, words):
    """Do the deed of these words to a ledger; refused as the ledger refuses it."""
    word = words[0]
    if word == "settle":
        ledger.settle()
    elif word == "put":
        ledger.put(words[1], words[2], number_of(words[3]))
    elif word == "give":
        ledger.give(words[1], number_of(words[2]))
    else:
        ledger.step((word, words[1], number_of(words[2])))
