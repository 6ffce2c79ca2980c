"""The book that a book settles to, and steps that lead there."""

from ringclear.rings import all_rings, rings_by, trail_by
from ringclear.steps import most_of


class Course:
    """What is left of a book's piles, and its cash, on the way to its end; the book itself stays as it is."""

    # A whole book at each step would be too slow a way, as one may have hundreds of steps.

    def __init__(self, book):
        self.heaps = {who: book.pile(who) for who in book.persons()}
        self.purses = {who: book.cash(who) for who in book.persons()}
        self.sunk = {who: 0 for who in book.persons()}
        self.steps = []

    def dues(self):
        """A dict from all persons, in order, to their due notes, or None."""
        return {who: heap[0] if len(heap) > 0 else None for who, heap in self.heaps.items()}

    def sink(self, who, amount):
        """Let so much of a person's due note fall."""
        to, left = self.heaps[who][0]
        rest = [(to, left - amount)] if amount < left else []
        self.heaps[who] = rest + self.heaps[who][1:]
        self.sunk[who] += amount
        self.purses[who] -= amount
        self.purses[to] += amount

    def clear_one(self, dues):
        """Clear the first ring by all that it can be; whether there was one."""
        rings = rings_by(dues)
        if len(rings) == 0:
            return False
        amount = min([dues[who][1] for who in rings[0]])
        for who in rings[0]:
            self.sink(who, amount)
        self.steps.append(("clear", rings[0][0], amount))
        return True

    def pay_one(self, dues):
        """In a book without rings, pay as much as one person can; whether somebody could."""
        payers = [who for who in dues if dues[who] is not None and self.purses[who] > 0]
        if len(payers) == 0:
            return False
        # From the farthest on, cash only comes to those who have yet to pay: until a note has gone, each pays once.
        who = max(payers, key=lambda one: len(trail_by(dues, one)))
        amount = min(dues[who][1], self.purses[who])
        self.sink(who, amount)
        self.steps.append(("pay", who, amount))
        return True


def course_of(book):
    """The course of a book, gone to its end."""
    course = Course(book)
    going = True
    while going:
        dues = course.dues()
        # Rings go first: cash that is paid round in one would come by coin by coin.
        going = course.clear_one(dues) or course.pay_one(dues)
    return course


def is_settled(book):
    """Whether nobody can pay and there is no ring."""
    return len(all_rings(book)) == 0 and all([most_of(book, who) == 0 for who in book.persons()])


def settled_book(book):
    """The book that a book settles to."""
    return book.let_fall(course_of(book).sunk)


def settling_steps(book):
    """A weaving that leads to the settled book; no steps, where the book is settled."""
    return course_of(book).steps
