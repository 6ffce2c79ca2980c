"""Texts spoilt by chance: rows, words and signs more, fewer, exchanged and others."""

WORDS = ["person", "persons", "put", "give", "pay", "clear", "settle", "back", "a", "l", "k", "abcdefghi", "zz", "0", "1",
         "007", "-1", "+1", "", "12", "A", "1a"]


def spoil_rows(chance, text):
    """Rows out, twice, exchanged, or two made one."""
    rows = text.splitlines(keepends=True)
    one, other = chance.randrange(len(rows)), chance.randrange(len(rows))
    kind = chance.randrange(5)
    if kind == 0:
        del rows[one]
    elif kind == 1:
        rows.insert(other, rows[one])
    elif kind == 2:
        rows[one], rows[other] = rows[other], rows[one]
    elif kind == 3:
        rows[one] = rows[one][:-1]
    else:
        rows = rows[:one]
    return "".join(rows)


def spoil_words(chance, text):
    """In one row a word more, fewer, or another one."""
    rows = text.split("\n")
    at = chance.randrange(len(rows))
    words = rows[at].split(" ")
    place = chance.randrange(len(words))
    other = chance.choice(WORDS)
    kind = chance.randrange(3)
    if kind == 0:
        del words[place]
    elif kind == 1:
        words.insert(place, other)
    else:
        words[place] = other
    rows[at] = " ".join(words)
    return "\n".join(rows)


def spoil_signs(chance, text):
    """A sign more, fewer, or another one."""
    place = chance.randrange(len(text))
    sign = chance.choice(" \n01279alk-+A.")
    kind = chance.randrange(3)
    if kind == 0:
        return text[:place] + text[place + 1:]
    return text[:place] + sign + text[place + (kind - 1):]


def spoilt(chance, text):
    """A text spoilt once or twice; never the text without signs."""
    for _ in range(chance.choice([1, 1, 2])):
        text = chance.choice([spoil_rows, spoil_words, spoil_signs])(chance, text) or "\n"
    return text
