"""Things for the tests: of all kinds, and a coin by coin model of books."""

import itertools
import random

from ringclear.books import Book
from ringclear.ledgers import Ledger
from ringclear.settling import settled_book
from ringclear.steps import most_of, stepped

SIXTY_FIGURES = int("7" * 60)
TWELVE = ["l", "k", "jj", "iii", "hhhh", "ggggg", "ffffff", "eeeeeee", "dddddddd", "c", "b", "a"]


def odd_things():
    """Things of many kinds, none of them a name and none a whole number from 0 on."""
    looped = []
    looped.append(looped)
    return [
        None, True, False, -1, -SIXTY_FIGURES,
        "", "Ann", "ANN", "ann ", " ann", "a b", "ann1", "1", "a-b", "a_b", "ann\n", "\n", "abcdefghi", "a" * 500,
        [], ["ann"], ["ann", 1], [[]], [None], {}, {"ann": 1}, {"ann": ["bob"]}, {1: {}}, (), ("ann",), ("ann", 1), (1,),
        b"", b"ann", set(), {"ann"}, frozenset(["ann"]), range(3), object(), object, len, looped, [{}, ({},)],
    ]


def whole_numbers():
    """Whole numbers from 0 on."""
    return [0, 1, 2, 60, 10 ** 30, SIXTY_FIGURES, 10 ** 60 - 1]


class CoinBook:
    """A book told coin by coin, in the plainest way, to compare with."""

    def __init__(self, persons):
        self.persons = list(persons)
        self.given = {who: 0 for who in persons}
        self.notes = {who: [] for who in persons}
        self.coins = {who: [] for who in persons}
        self.gone = {who: 0 for who in persons}

    def put(self, who, to, amount):
        number = len(self.notes[who])
        self.notes[who].append((to, amount))
        self.coins[who].extend([(number, to)] * amount)

    def give(self, who, amount):
        self.given[who] += amount

    def fallen_to(self, who):
        return sum(1 for other in self.persons for _, to in self.coins[other][:self.gone[other]] if to == who)

    def cash(self, who):
        return self.given[who] + self.fallen_to(who) - self.gone[who]

    def pile(self, who):
        left = {}
        for number, to in self.coins[who][self.gone[who]:]:
            left[number] = (to, left.get(number, (to, 0))[1] + 1)
        return [left[number] for number in sorted(left)]

    def refusal(self, more):
        """What letting so much fall is refused with: a name of an error and who, or None."""
        gone = {who: self.gone[who] + more.get(who, 0) for who in self.persons}
        if any(gone[who] > len(self.coins[who]) for who in self.persons):
            return ("NoVector", None)
        elder, self.gone = self.gone, gone
        short = [who for who in self.persons if self.cash(who) < 0]
        self.gone = elder
        return ("Short", short[0]) if short else None

    def let_fall(self, more):
        for who, much in more.items():
            self.gone[who] += much


class LikeAll:
    """A thing that says that it equals whatever it is compared with."""

    def __eq__(self, other):
        return True


def no_persons():
    """Things by which no person goes in a book of ann, bob, eve and the like."""
    return odd_things() + whole_numbers() + ["x", "an", "anna", "bo", Book(["ann"]), LikeAll()]


def any_amount(chance, figures):
    """An amount of so many figures at most."""
    return chance.randint(1, 10 ** chance.randint(1, figures) - 1)


def any_book(chance, persons, notes, figures=1, cash=True):
    """A book of these persons and so many notes, of which nothing has fallen; perhaps with cash here and there."""
    book = Book(persons)
    for _ in range(notes):
        book = book.put(chance.choice(persons), chance.choice(persons), any_amount(chance, figures))
    for who in persons:
        if cash and chance.random() < 0.5:
            book = book.give(who, any_amount(chance, figures))
    return book


def fallen_book(chance, book):
    """The same with something fallen: of each person nothing, all notes, some whole notes, or any part."""
    more = {}
    for who in book.persons():
        whole = book.whole_of(who)
        notes = book.notes(who)
        some = sum(amount for _, amount in notes[:chance.randint(0, len(notes))])
        more[who] = chance.choice([0, whole, some, chance.randint(0, whole)])
        # As much is given as falls, so that nobody is short.
        if more[who] > 0:
            book = book.give(who, more[who])
    return book.let_fall(more)


def greatest_fallen(book):
    """The greatest vector by which nobody's cash is below 0, come to from above: for small numbers."""
    fallen = {who: book.whole_of(who) for who in book.persons()}
    while True:
        ends = {who: book.given(who) - fallen[who] for who in book.persons()}
        for who in book.persons():
            rest = fallen[who]
            for to, amount in book.notes(who):
                ends[to] += min(rest, amount)
                rest -= min(rest, amount)
        if min(ends.values()) >= 0:
            return fallen
        fallen = {who: fallen[who] + min(0, ends[who]) for who in fallen}


def steps_from(book):
    """All steps that can be done in a book, of each amount."""
    steps = []
    for who in book.persons():
        steps += [("pay", who, amount) for amount in range(1, most_of(book, who) + 1)]
        steps += [("clear", who, amount) for amount in range(1, most_of(book, who, word="clear") + 1)]
    return steps


def any_step(chance, book):
    """A step that can be done, of an amount by chance; None, where there is none."""
    mosts = [(word, who, most_of(book, who, word=word)) for who in book.persons() for word in ["pay", "clear"]]
    steps = [(word, who, chance.choice([1, most, chance.randint(1, most)])) for word, who, most in mosts if most > 0]
    return chance.choice(steps) if steps else None


def some_steps(chance, book, many):
    """The book after so many steps at the most, by chance, of amounts by chance."""
    for _ in range(many):
        step = any_step(chance, book)
        if step is None:
            return book
        book = stepped(book, step)
    return book


def times(book, factor):
    """The same book with all numbers so many times as great."""
    other = Book(book.persons())
    for who in book.persons():
        if book.given(who):
            other = other.give(who, book.given(who) * factor)
        for to, amount in book.notes(who):
            other = other.put(who, to, amount * factor)
    return other.let_fall({who: book.fallen(who) * factor for who in book.persons()})


def book_by_seed(seed, figures=1):
    """A book of one to twelve persons and up to sixty notes, every second one with something fallen, and the chance."""
    chance = random.Random(seed)
    persons = chance.sample(TWELVE, chance.randint(1, 12))
    book = any_book(chance, persons, chance.choice([0, 1, 5, 12, 30, 60]), figures, cash=seed % 3 > 0)
    return chance, fallen_book(chance, book) if seed % 2 else book


def small_book(chance, notes=4, amount=3):
    """A book of one to three persons with few and small notes."""
    persons = chance.sample(["ann", "bob", "eve"], chance.choice([1, 2, 3, 3]))
    book = Book(persons)
    for _ in range(chance.randint(0, notes)):
        book = book.put(chance.choice(persons), chance.choice(persons), chance.randint(1, amount))
    for _ in range(chance.randint(0, 2)):
        book = book.give(chance.choice(persons), chance.randint(1, 2))
    return book


def all_vectors(book):
    """All vectors of a small book."""
    spans = [range(book.whole_of(who) + 1) for who in book.persons()]
    return [dict(zip(book.persons(), row)) for row in itertools.product(*spans)]


def plain_ends(book, vector):
    """What each would have by a vector, coin by coin: for small numbers."""
    coins = CoinBook(book.persons())
    for who in book.persons():
        coins.give(who, book.given(who))
        coins.gone[who] = vector[who]
        for to, amount in book.notes(who):
            coins.put(who, to, amount)
    return {who: coins.cash(who) for who in book.persons()}


def any_vector(chance, book):
    """A vector by chance: of each person nothing, all notes, or any part."""
    wholes = {who: book.whole_of(who) for who in book.persons()}
    return {who: chance.choice([0, whole, chance.randint(0, whole)]) for who, whole in wholes.items()}


def vector_of(book):
    """What has fallen of each person's notes."""
    return {who: book.fallen(who) for who in book.persons()}


def turned(vector):
    """The same dict with its keys the other way round."""
    return {who: vector[who] for who in list(vector)[::-1]}


def no_vectors(book):
    """Things that are no vector of a book of which no notes come to sixty figures."""
    good = {who: 0 for who in book.persons()}
    first, last = book.persons()[0], book.persons()[-1]
    things = [thing for thing in odd_things() if thing != good] + whole_numbers() + [LikeAll(), book, "ann", list(good)]
    things += [list(good.items()), tuple(good.items()), {**good, "x": 0}, {**good, None: 0}, {**good, 1: 0}]
    for who in {first, last}:
        fewer = {one: 0 for one in good if one != who}
        things.append(fewer)
        for key in ["x", "", who + who + "z", who.upper(), None, 0, True, (who,), who.encode(), frozenset(), object()]:
            things.append({**fewer, key: 0})
        for much in odd_things() + [book.whole_of(who) + 1, SIXTY_FIGURES, "0", "1", LikeAll(), book]:
            things.append({**good, who: much})
    return things


def any_deed(chance, book, figures=1):
    """A deed that can be done, of an amount by chance."""
    persons = book.persons()
    kind = chance.choice(["put", "put", "put", "give", "step", "step", "settle"])
    step = any_step(chance, book) if kind == "step" else None
    if step is not None:
        return step
    if kind == "put" and sum(len(book.notes(who)) for who in persons) < 60:
        return ("put", chance.choice(persons), chance.choice(persons), any_amount(chance, figures))
    if kind == "settle":
        return ("settle",)
    return ("give", chance.choice(persons), any_amount(chance, figures))


def done(book, deed):
    """A book in which a deed is done."""
    if deed[0] == "put":
        return book.put(*deed[1:])
    if deed[0] == "give":
        return book.give(*deed[1:])
    return settled_book(book) if deed == ("settle",) else stepped(book, deed)


def do(ledger, deed):
    """Do a deed to a ledger by the method that does it."""
    if deed[0] == "put":
        return ledger.put(*deed[1:])
    if deed[0] == "give":
        return ledger.give(*deed[1:])
    return ledger.settle() if deed == ("settle",) else ledger.step(deed)


def any_ledger(chance, persons, deeds, figures=1):
    """A ledger of these persons to which so many deeds were done."""
    ledger = Ledger(persons)
    for _ in range(deeds):
        do(ledger, any_deed(chance, ledger.book(), figures))
    return ledger


def woven(chance, ledger):
    """Another ledger of the same puts and sums, with steps and settlings by chance between them."""
    persons = ledger.book().persons()
    puts = {who: [deed for deed in ledger.log() if deed[0] == "put" and deed[1] == who] for who in persons}
    rest = {who: ledger.book().given(who) for who in persons}
    other = Ledger(persons)
    while any(puts.values()) or any(rest.values()):
        who = chance.choice(persons)
        if puts[who] and chance.random() < 0.7:
            do(other, puts[who].pop(0))
        elif rest[who]:
            part = chance.choice([rest[who], chance.randint(1, rest[who])])
            other.give(who, part)
            rest[who] -= part
        step = any_step(chance, other.book())
        if step is not None and chance.random() < 0.6:
            other.step(step)
        if chance.random() < 0.1:
            other.settle()
    return other
