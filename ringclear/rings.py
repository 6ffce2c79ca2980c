"""Due notes, the trails along which they lead, and the rings in which they go round."""

from ringclear.errors import NoSuch


def due_of(book, who):
    """What is left of the uppermost note of a person's pile; None, where the pile is empty."""
    pile = book.pile(who)
    return pile[0] if len(pile) > 0 else None


def all_dues(book):
    """A dict from all persons, in order, to their due notes, or None."""
    return {who: due_of(book, who) for who in book.persons()}


def trail_by(dues, who):
    """The persons to whom these due notes lead from a person, this one first."""
    trail = [who]
    due = dues[who]
    while due is not None and due[0] not in trail:
        trail.append(due[0])
        due = dues[due[0]]
    return trail


def ring_by(dues, who):
    """The ring that a person is in by these due notes, or None."""
    trail = trail_by(dues, who)
    last = dues[trail[-1]]
    # A trail may also go round without coming back to where it began: then only others are in the ring.
    if last is None or last[0] != who:
        return None
    first = [name for name in dues if name in trail][0]
    place = trail.index(first)
    return trail[place:] + trail[:place]


def rings_by(dues):
    """All rings by these due notes, by their first persons in order."""
    rings = []
    for who in dues:
        ring = ring_by(dues, who)
        # Each of its persons tells the same ring: it is taken once, from the first of them.
        if ring is not None and ring[0] == who:
            rings.append(ring)
    return rings


def check_person(book, who):
    """Refuse a name by which no person of the book goes."""
    if not book.has(who):
        raise NoSuch(who)


def ring_of(book, who):
    """The ring that a person is in, from its first person in order; None, where there is none."""
    check_person(book, who)
    return ring_by(all_dues(book), who)


def trail_of(book, who):
    """The persons that are come to from a person, this one first."""
    check_person(book, who)
    return trail_by(all_dues(book), who)


def ends_at(book, who):
    """The person without a due note at whom a person's trail ends; None, where it goes round."""
    last = trail_of(book, who)[-1]
    return last if due_of(book, last) is None else None


def all_rings(book):
    """All rings of a book, by their first persons in order."""
    return rings_by(all_dues(book))
