"""What a name is, and what an amount is."""

LETTERS = "abcdefghijklmnopqrstuvwxyz"
LONGEST = 8


def is_name(thing):
    """Whether a thing is a text of one to eight small letters."""
    if not isinstance(thing, str):
        return False
    if len(thing) < 1 or len(thing) > LONGEST:
        return False
    return all([sign in LETTERS for sign in thing])


def is_whole(thing):
    """Whether a thing is a whole number."""
    # Python counts True and False among the integers; the document does not.
    return isinstance(thing, int) and not isinstance(thing, bool)


def is_amount(thing):
    """Whether a thing is a whole number from 1 on."""
    return is_whole(thing) and thing >= 1
