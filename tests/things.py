"""Things for the tests: of all kinds, and a coin by coin model of books."""

SIXTY_FIGURES = int("7" * 60)


def odd_things():
    """Things of many kinds, none of them a name and none a whole number from 0 on."""
    looped = []
    looped.append(looped)
    return [
        None, True, False, -1, -SIXTY_FIGURES,
        "", "Ann", "ANN", "ann ", " ann", "a b", "ann1", "1", "a-b", "a_b", "ann\n", "\n", "abcdefghi", "a" * 500,
        [], ["ann"], ["ann", 1], [[]], [None], {}, {"ann": 1}, {"ann": ["bob"]}, {1: {}}, (), ("ann",), ("ann", 1), (1,),
        b"", b"ann", set(), {"ann"}, frozenset(["ann"]), range(3), object(), object, len, looped, [{}, ({},)],
    ]


def whole_numbers():
    """Whole numbers from 0 on."""
    return [0, 1, 2, 60, 10 ** 30, SIXTY_FIGURES, 10 ** 60 - 1]


class CoinBook:
    """A book told coin by coin, in the plainest way, to compare with."""

    def __init__(self, persons):
        self.persons = list(persons)
        self.given = {who: 0 for who in persons}
        self.notes = {who: [] for who in persons}
        self.coins = {who: [] for who in persons}
        self.gone = {who: 0 for who in persons}

    def put(self, who, to, amount):
        number = len(self.notes[who])
        self.notes[who].append((to, amount))
        self.coins[who].extend([(number, to)] * amount)

    def give(self, who, amount):
        self.given[who] += amount

    def fallen_to(self, who):
        return sum(1 for other in self.persons for _, to in self.coins[other][:self.gone[other]] if to == who)

    def cash(self, who):
        return self.given[who] + self.fallen_to(who) - self.gone[who]

    def pile(self, who):
        left = {}
        for number, to in self.coins[who][self.gone[who]:]:
            left[number] = (to, left.get(number, (to, 0))[1] + 1)
        return [left[number] for number in sorted(left)]

    def refusal(self, more):
        """What letting so much fall is refused with: a name of an error and who, or None."""
        gone = {who: self.gone[who] + more.get(who, 0) for who in self.persons}
        if any(gone[who] > len(self.coins[who]) for who in self.persons):
            return ("NoVector", None)
        elder, self.gone = self.gone, gone
        short = [who for who in self.persons if self.cash(who) < 0]
        self.gone = elder
        return ("Short", short[0]) if short else None

    def let_fall(self, more):
        for who, much in more.items():
            self.gone[who] += much
