"""Books: persons, what was given to them, the notes that they put, and what has fallen of these."""

from ringclear.errors import Full, NoAmount, NoBook, NoSuch, NoVector, Short
from ringclear.names import is_amount, is_name, is_whole

MOST = 60
MOST_PERSONS = 12


def check_persons(persons):
    """Refuse what is no list of one to twelve unlike names."""
    if not isinstance(persons, list) or len(persons) < 1 or len(persons) > MOST_PERSONS:
        raise NoBook("persons", "persons")
    for place, name in enumerate(persons):
        if not is_name(name):
            raise NoBook("name", name if isinstance(name, str) else str(place))
        if name in persons[:place]:
            raise NoBook("again", name)


def check_amount(amount):
    """Refuse what is no whole number from 1 on."""
    if not is_amount(amount):
        raise NoAmount("an amount is a whole number from 1 on")


def split_notes(notes, fallen):
    """What has gone of these notes and what is left of them, both as notes, where so much falls from above."""
    gone = []
    left = []
    for to, amount in notes:
        part = min(amount, fallen)
        fallen -= part
        if part > 0:
            gone.append((to, part))
        if part < amount:
            left.append((to, amount - part))
    return gone, left


def with_changed(row, place, thing):
    """A tuple like the row, but for the thing at this place."""
    return row[:place] + (thing,) + row[place + 1:]


class Book:
    """A book is a value: no method changes it, some tell another book."""

    # All that a book holds are tuples, one entry a person, so books may share them.

    def __init__(self, persons):
        check_persons(persons)
        self.names = tuple(persons)
        self.gifts = (0,) * len(persons)
        self.stacks = ((),) * len(persons)
        self.drops = (0,) * len(persons)

    def with_these(self, gifts, stacks, drops):
        """A book of the same persons with these sums given, notes put, and sums fallen."""
        other = Book(list(self.names))
        other.gifts = gifts
        other.stacks = stacks
        other.drops = drops
        return other

    def place_of(self, who):
        """The place of a person in the order of the book."""
        if not self.has(who):
            raise NoSuch(who)
        return self.names.index(who)

    def persons(self):
        """The names of all persons, in order."""
        return list(self.names)

    def has(self, who):
        """Whether a person of the book goes by this name."""
        return is_name(who) and who in self.names

    def given(self, who):
        """What was given to a person in all."""
        return self.gifts[self.place_of(who)]

    def fallen(self, who):
        """What has fallen of a person's notes."""
        return self.drops[self.place_of(who)]

    def notes(self, who):
        """All notes that a person put, in order."""
        return list(self.stacks[self.place_of(who)])

    def pile(self, who):
        """What is left of a person's notes, the uppermost first."""
        gone, left = split_notes(self.notes(who), self.fallen(who))
        return left

    def whole_of(self, who):
        """What all notes that a person put come to."""
        return sum([amount for to, amount in self.notes(who)])

    def fallen_to(self, who):
        """What has fallen of all notes that are to a person."""
        name = self.names[self.place_of(who)]
        total = 0
        for stack, drop in zip(self.stacks, self.drops):
            gone, left = split_notes(stack, drop)
            total += sum([part for to, part in gone if to == name])
        return total

    def cash(self, who):
        """What a person has in hand."""
        return self.given(who) + self.fallen_to(who) - self.fallen(who)

    def put(self, who, to, amount):
        """A book with one more note, the lowest in the pile of the one who owes."""
        place = self.place_of(who)
        name = self.names[self.place_of(to)]
        check_amount(amount)
        if sum([len(stack) for stack in self.stacks]) >= MOST:
            raise Full(MOST)
        stack = self.stacks[place] + ((name, amount),)
        return self.with_these(self.gifts, with_changed(self.stacks, place, stack), self.drops)

    def give(self, who, amount):
        """A book with so much more given to a person."""
        place = self.place_of(who)
        check_amount(amount)
        gift = self.gifts[place] + amount
        return self.with_these(with_changed(self.gifts, place, gift), self.stacks, self.drops)

    def may_fall(self, more):
        """Whether this is a dict of what may still fall of some persons' notes."""
        if not isinstance(more, dict):
            return False
        for who, much in more.items():
            if not self.has(who) or not is_whole(much) or much < 0:
                return False
            if self.fallen(who) + much > self.whole_of(who):
                return False
        return True

    def let_fall(self, more):
        """A book with so much more fallen of each one's notes, all at once."""
        if not self.may_fall(more):
            raise NoVector("no dict of what may still fall of some persons' notes")
        drops = tuple([self.fallen(who) + more.get(who, 0) for who in self.names])
        other = self.with_these(self.gifts, self.stacks, drops)
        # Whether somebody is short is asked of the whole, as cash that falls to them counts as well.
        for who in self.names:
            if other.cash(who) < 0:
                raise Short(who)
        return other

    def key(self):
        """A tuple that is the same for equal books, and for no others."""
        return (self.names, self.gifts, self.stacks, self.drops)

    def notes_left(self):
        """All notes that are left in the piles."""
        return [note for who in self.names for note in self.pile(who)]

    def __eq__(self, other):
        return isinstance(other, Book) and self.key() == other.key()

    def __len__(self):
        return len(self.notes_left())
