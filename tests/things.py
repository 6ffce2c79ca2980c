"""Things for the tests: of all kinds, and a coin by coin model of books."""

from ringclear.books import Book

SIXTY_FIGURES = int("7" * 60)
TWELVE = ["l", "k", "jj", "iii", "hhhh", "ggggg", "ffffff", "eeeeeee", "dddddddd", "c", "b", "a"]


def odd_things():
    """Things of many kinds, none of them a name and none a whole number from 0 on."""
    looped = []
    looped.append(looped)
    return [
        None, True, False, -1, -SIXTY_FIGURES,
        "", "Ann", "ANN", "ann ", " ann", "a b", "ann1", "1", "a-b", "a_b", "ann\n", "\n", "abcdefghi", "a" * 500,
        [], ["ann"], ["ann", 1], [[]], [None], {}, {"ann": 1}, {"ann": ["bob"]}, {1: {}}, (), ("ann",), ("ann", 1), (1,),
        b"", b"ann", set(), {"ann"}, frozenset(["ann"]), range(3), object(), object, len, looped, [{}, ({},)],
    ]


def whole_numbers():
    """Whole numbers from 0 on."""
    return [0, 1, 2, 60, 10 ** 30, SIXTY_FIGURES, 10 ** 60 - 1]


class CoinBook:
    """A book told coin by coin, in the plainest way, to compare with."""

    def __init__(self, persons):
        self.persons = list(persons)
        self.given = {who: 0 for who in persons}
        self.notes = {who: [] for who in persons}
        self.coins = {who: [] for who in persons}
        self.gone = {who: 0 for who in persons}

    def put(self, who, to, amount):
        number = len(self.notes[who])
        self.notes[who].append((to, amount))
        self.coins[who].extend([(number, to)] * amount)

    def give(self, who, amount):
        self.given[who] += amount

    def fallen_to(self, who):
        return sum(1 for other in self.persons for _, to in self.coins[other][:self.gone[other]] if to == who)

    def cash(self, who):
        return self.given[who] + self.fallen_to(who) - self.gone[who]

    def pile(self, who):
        left = {}
        for number, to in self.coins[who][self.gone[who]:]:
            left[number] = (to, left.get(number, (to, 0))[1] + 1)
        return [left[number] for number in sorted(left)]

    def refusal(self, more):
        """What letting so much fall is refused with: a name of an error and who, or None."""
        gone = {who: self.gone[who] + more.get(who, 0) for who in self.persons}
        if any(gone[who] > len(self.coins[who]) for who in self.persons):
            return ("NoVector", None)
        elder, self.gone = self.gone, gone
        short = [who for who in self.persons if self.cash(who) < 0]
        self.gone = elder
        return ("Short", short[0]) if short else None

    def let_fall(self, more):
        for who, much in more.items():
            self.gone[who] += much


class LikeAll:
    """A thing that says that it equals whatever it is compared with."""

    def __eq__(self, other):
        return True


def no_persons():
    """Things by which no person goes in a book of ann, bob, eve and the like."""
    return odd_things() + whole_numbers() + ["x", "an", "anna", "bo", Book(["ann"]), LikeAll()]


def any_amount(chance, figures):
    """An amount of so many figures at most."""
    return chance.randint(1, 10 ** chance.randint(1, figures) - 1)


def any_book(chance, persons, notes, figures=1, cash=True):
    """A book of these persons and so many notes, of which nothing has fallen; perhaps with cash here and there."""
    book = Book(persons)
    for _ in range(notes):
        book = book.put(chance.choice(persons), chance.choice(persons), any_amount(chance, figures))
    for who in persons:
        if cash and chance.random() < 0.5:
            book = book.give(who, any_amount(chance, figures))
    return book


def fallen_book(chance, book):
    """The same with something fallen: of each person nothing, all notes, some whole notes, or any part."""
    more = {}
    for who in book.persons():
        whole = book.whole_of(who)
        notes = book.notes(who)
        some = sum(amount for _, amount in notes[:chance.randint(0, len(notes))])
        more[who] = chance.choice([0, whole, some, chance.randint(0, whole)])
        # As much is given as falls, so that nobody is short.
        if more[who] > 0:
            book = book.give(who, more[who])
    return book.let_fall(more)


def greatest_fallen(book):
    """The greatest vector by which nobody's cash is below 0, come to from above: for small numbers."""
    fallen = {who: book.whole_of(who) for who in book.persons()}
    while True:
        ends = {who: book.given(who) - fallen[who] for who in book.persons()}
        for who in book.persons():
            rest = fallen[who]
            for to, amount in book.notes(who):
                ends[to] += min(rest, amount)
                rest -= min(rest, amount)
        if min(ends.values()) >= 0:
            return fallen
        fallen = {who: fallen[who] + min(0, ends[who]) for who in fallen}
