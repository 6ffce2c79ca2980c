"""A desk: rows and their answers."""

import random
import unittest

from things import SIXTY_FIGURES, TWELVE, LikeAll, any_deed, do, odd_things, whole_numbers

from ringclear import errors
from ringclear.books import Book
from ringclear.desk import Desk
from ringclear.errors import BookError, Full, NoAmount, NoBack, NoBook, NoRing, NoRow, NoSuch, TooMuch
from ringclear.gifts import least_gift
from ringclear.histories import history_text, read_history
from ringclear.lacks import all_stuck, is_paid, lack_of, owes_of
from ringclear.ledgers import Ledger
from ringclear.rings import all_rings

HISTORY = "persons ann bob eve\ngive eve 2\nput ann bob 3\nput bob ann 5\nput eve ann 4\nput eve bob 1\n"
# The row of each kind by how many words it has, each with a good example.
SHAPES = {
    "put": "put one ann bob 3", "give": "give one ann 3", "pay": "pay one eve 1", "clear": "clear one ann 1",
    "settle": "settle one", "back": "back one 1", "cash": "cash one ann", "owes": "owes one ann", "lacks": "lacks one ann",
    "fallen": "fallen one ann", "pile": "pile one ann", "rings": "rings one", "stuck": "stuck one", "paid": "paid one",
    "gift": "gift one ann bob 3", "history": "history one", "copy": "copy one two", "open": "open one ann",
}
NUMBERED = ["put", "give", "pay", "clear", "back", "gift"]


def desk_with(*names):
    """A desk with the same ledger by each of these names."""
    desk = Desk()
    for name in names:
        desk.say(f"open {name} ann bob eve")
        for row in HISTORY.splitlines()[1:]:
            word, rest = row.split(" ", 1)
            desk.say(f"{word} {name} {rest}")
    return desk


class Desks(unittest.TestCase):

    def refused(self, desk, row, kind, **fields):
        """Whether a row is refused so."""
        with self.subTest(repr(row)[:70]):
            with self.assertRaises(kind) as caught:
                desk.say(row)
            self.assertIs(type(caught.exception), kind)
            self.assertEqual({name: getattr(caught.exception, name) for name in fields}, fields)

    def answers(self, desk, rows):
        """Whether each row has its answer."""
        for row, answer in rows:
            told = desk.say(row)
            self.assertEqual((row, told), (row, answer))
            self.assertIs(type(told), str)


class Answers(Desks):

    def test_open_and_deeds(self):
        self.answers(Desk(), [
            ("open one ann bob eve", "ok"), ("history one", "persons ann bob eve\n"),
            ("give one eve 2", "ok"), ("put one ann bob 3", "ok"), ("put one bob ann 5", "ok"), ("put one eve ann 4", "ok"),
            ("pay one eve 1", "ok"), ("clear one bob 2", "ok"), ("settle one", "ok"), ("settle one", "ok"),
            ("history one", "persons ann bob eve\ngive eve 2\nput ann bob 3\nput bob ann 5\nput eve ann 4\npay eve 1\n"
                            "clear bob 2\nsettle\nsettle\n"),
        ])

    def test_what_a_person_has_and_owes(self):
        self.answers(desk_with("one"), [
            ("cash one ann", "0"), ("cash one eve", "2"), ("owes one ann", "3"), ("owes one bob", "5"),
            ("owes one eve", "5"), ("lacks one ann", "0"), ("lacks one bob", "1"), ("lacks one eve", "3"),
            ("fallen one ann", "0"), ("fallen one eve", "0"), ("pile one eve", "ann 4 bob 1"), ("pile one ann", "bob 3"),
            ("settle one", "ok"),
            ("cash one ann", "2"), ("cash one eve", "0"), ("owes one ann", "0"), ("owes one bob", "2"),
            ("owes one eve", "3"), ("lacks one bob", "1"), ("lacks one eve", "3"), ("fallen one ann", "3"),
            ("fallen one eve", "2"), ("pile one eve", "ann 2 bob 1"), ("pile one ann", ""), ("pile one bob", "ann 2"),
        ])

    def test_rings(self):
        desk = desk_with("one")
        self.answers(desk, [
            ("rings one", "ann>bob"), ("clear one ann 3", "ok"), ("rings one", ""),
            ("open two eve bob ann joe", "ok"), ("rings two", ""), ("put two eve eve 1", "ok"), ("rings two", "eve"),
            ("put two joe ann 1", "ok"), ("put two ann bob 1", "ok"), ("put two bob joe 1", "ok"),
            ("rings two", "eve bob>joe>ann"),
        ])

    def test_stuck_and_paid(self):
        self.answers(desk_with("one"), [
            ("stuck one", "bob>ann eve>ann"), ("paid one", "no"), ("give one bob 1", "ok"), ("paid one", "no"),
            ("give one eve 2", "ok"), ("paid one", "no"), ("give one eve 1", "ok"), ("paid one", "yes"), ("stuck one", ""),
            ("settle one", "ok"), ("paid one", "yes"), ("stuck one", ""),
            ("open two ann", "ok"), ("paid two", "yes"), ("stuck two", ""),
        ])

    def test_gift(self):
        self.answers(desk_with("one"), [
            ("gift one eve eve 0", "0"), ("gift one eve eve 2", "0"), ("gift one eve eve 3", "1"),
            ("gift one eve eve 5", "3"), ("gift one bob bob 5", "2"), ("gift one eve bob 4", "3"),
            ("gift one eve bob 5", "never"), ("gift one ann bob 4", "never"), ("gift one bob eve 5", "never"),
            ("history one", HISTORY),
        ])

    def test_back(self):
        self.answers(desk_with("one"), [
            ("back one 0", "5"), ("back one 1", "4"), ("history one", HISTORY.replace("put eve bob 1\n", "")),
            ("back one 3", "1"), ("history one", "persons ann bob eve\ngive eve 2\n"), ("back one 1", "0"),
            ("back one 0", "0"), ("history one", "persons ann bob eve\n"),
        ])

    def test_sixty_figures(self):
        most = SIXTY_FIGURES
        self.answers(Desk(), [
            ("open one ann bob", "ok"), (f"give one ann {most}", "ok"), (f"give one ann {most}", "ok"),
            (f"put one ann bob {most}", "ok"), (f"put one bob ann {most}", "ok"), (f"put one ann bob {most}", "ok"),
            ("cash one ann", str(2 * most)), ("owes one ann", str(2 * most)), ("pile one ann", f"bob {most} bob {most}"),
            (f"pay one ann {most}", "ok"), ("fallen one ann", str(most)), (f"gift one ann ann {2 * most}", "0"),
            ("history one", f"persons ann bob\ngive ann {most}\ngive ann {most}\nput ann bob {most}\nput bob ann {most}\n"
                            f"put ann bob {most}\npay ann {most}\n"),
        ])

    def test_a_sum_of_more_figures_can_be_handed_in_again(self):
        desk = Desk()
        desk.say("open one ann bob")
        for _ in range(20):
            desk.say(f"put one ann bob {SIXTY_FIGURES}")
        whole = desk.say("owes one ann")
        self.answers(desk, [(f"gift one ann ann {whole}", whole), (f"give one ann {whole}", "ok"), ("paid one", "yes")])

    def test_by_the_name_of_the_argument(self):
        self.assertEqual(Desk().say(row="open one ann"), "ok")

    def test_asked_again_the_same_is_told(self):
        desk = desk_with("one")
        for word, row in SHAPES.items():
            if word not in ["put", "give", "pay", "clear", "settle", "back", "copy", "open"]:
                self.assertEqual(desk.say(row), desk.say(row))


class Keeping(Desks):

    def test_none_at_first(self):
        for word, row in SHAPES.items():
            if word != "open":
                self.refused(Desk(), row, NoSuch, who="one")

    def test_desks_do_not_know_of_each_other(self):
        desk_with("one")
        self.refused(Desk(), "history one", NoSuch, who="one")

    def test_opened_anew_in_the_place_of_an_elder_one(self):
        desk = desk_with("one", "two")
        self.answers(desk, [
            ("open one joe", "ok"), ("history one", "persons joe\n"), ("history two", HISTORY),
            ("open one ann bob eve", "ok"), ("history one", "persons ann bob eve\n"), ("back one 0", "0"),
        ])

    def test_copied_over_others_and_over_themselves(self):
        desk = desk_with("one")
        self.answers(desk, [
            ("copy one two", "ok"), ("history two", HISTORY), ("give one ann 1", "ok"), ("history two", HISTORY),
            ("back two 5", "0"), ("history one", HISTORY + "give ann 1\n"), ("copy one one", "ok"),
            ("history one", HISTORY + "give ann 1\n"), ("give one ann 2", "ok"), ("copy two one", "ok"),
            ("history one", "persons ann bob eve\n"), ("give two bob 3", "ok"), ("history one", "persons ann bob eve\n"),
            ("copy two two", "ok"), ("back two 1", "0"), ("copy one three", "ok"), ("settle three", "ok"),
            ("history one", "persons ann bob eve\n"), ("history three", "persons ann bob eve\nsettle\n"),
        ])

    def test_names_like_words_of_rows(self):
        self.answers(Desk(), [
            ("open open open put settle", "ok"), ("put open put settle 3", "ok"), ("give open put 3", "ok"),
            ("pile open put", "settle 3"), ("copy open copy", "ok"), ("settle copy", "ok"), ("cash copy settle", "3"),
            ("cash open settle", "0"), ("gift open open open 0", "0"), ("open settle settle", "ok"),
            ("settle settle", "ok"), ("history settle", "persons settle\nsettle\n"), ("open history pile", "ok"),
            ("history history", "persons pile\n"), ("pile history pile", ""), ("rings history", ""),
            ("open pay pay", "ok"), ("give pay pay 1", "ok"), ("put pay pay pay 1", "ok"), ("pay pay pay 1", "ok"),
            ("put pay pay pay 1", "ok"), ("clear pay pay 1", "ok"), ("back pay 2", "3"),
        ])


class NoRows(Desks):

    def test_what_is_no_text(self):
        desk = desk_with("one")
        for thing in [thing for thing in odd_things() if not isinstance(thing, str)] + whole_numbers() + [
            ["paid", "one"], ("paid", "one"), b"paid one", LikeAll(), {"paid": "one"}, Desk(), Ledger(["ann"]), Book(["ann"]),
        ]:
            self.refused(desk, thing, NoRow)

    def test_a_word_more_or_fewer(self):
        desk = desk_with("one", "two")
        for word, row in SHAPES.items():
            words = row.split(" ")
            for many in range(1, len(words)):
                self.refused(desk, " ".join(words[:many]), NoRow)
            if word != "open":
                # The word more is a number, too, where the last one is.
                for more in ["1", "ann", "one"]:
                    self.refused(desk, f"{row} {more}", NoRow)
                    self.refused(desk, f"{word} {more} {' '.join(words[1:])}", NoRow)
        self.assertEqual((desk.say("history one"), desk.say("history two")), (HISTORY, HISTORY))

    def test_blanks_and_line_feeds(self):
        desk = desk_with("one", "two")
        for row in SHAPES.values():
            for other in [" " + row, row + " ", row.replace(" ", "  ", 1), row.replace(" ", "  "), row + "\n", "\n" + row,
                          row.replace(" ", "\n", 1), row.replace(" ", " \n", 1), row.replace(" ", "\n "), row + "\n" + row]:
                self.refused(desk, other, NoRow)
        for row in ["", " ", "  ", "\n", "\n\n", "open one ann\nbob", "open one ann bob\n", "open one  ann"]:
            self.refused(desk, row, NoRow)

    def test_other_words(self):
        desk = desk_with("one")
        for word, row in SHAPES.items():
            for other in [word + "s", word[:-1], word.upper(), word.title(), "x" + word, "x", "1", "-", "step", "weave",
                          "log", "book", "lack", "persons", "person", "owed", "given", "notes", "due", "ring"]:
                if other not in SHAPES:
                    self.refused(desk, row.replace(word, other, 1), NoRow)
        for row in ["settle", "paid", "one paid", "one", "ann", "history", "open", "open one", "copy one", "copy"]:
            self.refused(desk, row, NoRow)

    def test_numbers_that_are_none(self):
        desk = desk_with("one")
        for word in NUMBERED:
            words = SHAPES[word].split(" ")[:-1]
            for number in ["x", "ann", "-1", "+1", "01", "00", "1.0", "1_0", "1e1", "0x1", "1a", "a1", "1,0", "--1", "^"]:
                self.refused(desk, " ".join(words + [number]), NoRow)
        self.assertEqual(desk.say("history one"), HISTORY)

    def test_no_row_goes_first(self):
        desk = desk_with("one")
        for row in ["put x y z 01", "put X y z", "back x -1", "cash x", "open X", "copy x", "gift x y z q", "paid X y"]:
            self.refused(desk, row, NoRow)
        self.assertTrue(issubclass(NoRow, BookError))


class NoNames(Desks):

    def test_no_ledger_is_kept_by_it(self):
        desk = desk_with("one")
        for word, row in SHAPES.items():
            if word != "open":
                for name in ["two", "on", "onee", "One", "1", "abcdefghi", "o-e", "ann", "~"]:
                    self.refused(desk, row.replace(" one", " " + name, 1), NoSuch, who=name)

    def test_open_and_copy_by_what_is_no_name(self):
        desk = desk_with("one")
        for name in ["One", "1", "abcdefghi", "o-e", "o_e", "one,", "~", "'one'"]:
            self.refused(desk, f"open {name} ann", NoSuch, who=name)
            self.refused(desk, f"copy one {name}", NoSuch, who=name)
            self.refused(desk, f"copy two {name}", NoSuch, who="two")
            self.refused(desk, f"copy {name} two", NoSuch, who=name)
            # The name of the ledger goes ahead of the persons.
            self.refused(desk, f"open {name} Ann", NoSuch, who=name)
        self.refused(desk, "history two", NoSuch, who="two")
        self.assertEqual(desk.say("open abcdefgh ann"), "ok")

    def test_the_first_wrong_name_from_the_left(self):
        desk = desk_with("one")
        for row, who in [
            ("put x y z 0", "x"), ("put one y z 0", "y"), ("put one ann z 0", "z"), ("give x y 0", "x"), ("give one y 0", "y"),
            ("pay x y 0", "x"), ("pay one y 0", "y"), ("clear x y 0", "x"), ("clear one y 0", "y"), ("gift x y z 99", "x"),
            ("gift one y z 99", "y"), ("gift one ann z 99", "z"), ("cash x y", "x"), ("cash one y", "y"), ("owes one y", "y"),
            ("lacks one y", "y"), ("fallen one y", "y"), ("pile one y", "y"), ("pile x y", "x"), ("cash one Ann", "Ann"),
            ("cash one 1", "1"), ("put one ann > 1", ">"), ("cash one one", "one"), ("copy x Y", "x"),
        ]:
            self.refused(desk, row, NoSuch, who=who)


class AsTheStagesRefuse(Desks):

    def test_no_book(self):
        desk = desk_with("one")
        self.refused(desk, "open one ann Bob", NoBook, what="name", who="Bob")
        self.refused(desk, "open one ann bob ann Bob", NoBook, what="again", who="ann")
        self.refused(desk, "open one abcdefghi", NoBook, what="name", who="abcdefghi")
        self.refused(desk, "open one 1", NoBook, what="name", who="1")
        self.refused(desk, "open one " + " ".join(TWELVE + ["x"]), NoBook, what="persons", who="persons")
        self.refused(desk, "open two ann ann", NoBook, what="again", who="ann")
        self.refused(desk, "history two", NoSuch, who="two")
        # The elder ledger stays.
        self.assertEqual(desk.say("history one"), HISTORY)
        self.assertEqual(desk.say("open one " + " ".join(TWELVE)), "ok")

    def test_amounts(self):
        desk = desk_with("one")
        for row in ["put one ann bob 0", "give one ann 0", "pay one eve 0", "clear one ann 0", "clear one eve 0",
                    "gift one ann bob 6", "gift one ann ann 4", f"gift one ann eve {SIXTY_FIGURES}"]:
            self.refused(desk, row, NoAmount)
        self.assertEqual(desk.say("history one"), HISTORY)

    def test_steps(self):
        desk = desk_with("one")
        self.refused(desk, "pay one eve 3", TooMuch, who="eve", most=2)
        self.refused(desk, "pay one ann 1", TooMuch, who="ann", most=0)
        self.refused(desk, "clear one bob 4", TooMuch, who="bob", most=3)
        self.refused(desk, "clear one eve 1", NoRing, who="eve")
        self.assertEqual(desk.say("history one"), HISTORY)

    def test_full(self):
        desk = Desk()
        desk.say("open one ann")
        for _ in range(60):
            desk.say("put one ann ann 1")
        self.refused(desk, "put one ann ann 1", Full, many=60)
        self.refused(desk, "put one ann ann 0", NoAmount)
        self.answers(desk, [("back one 1", "59"), ("put one ann ann 2", "ok"), ("owes one ann", "61")])

    def test_back(self):
        desk = desk_with("one")
        for many in ["6", "7", "60", str(SIXTY_FIGURES), "9" * 5000]:
            self.refused(desk, f"back one {many}", NoBack)
        self.assertEqual(desk.say("history one"), HISTORY)


def told_plainly(ledger, words):
    """The answer to a row that asks something of a ledger, words being those behind the name."""
    book = ledger.book()
    word, rest = words[0], words[2:]
    if word in ["cash", "fallen"]:
        return str(getattr(book, word)(rest[0]))
    if word == "owes":
        return str(owes_of(book, rest[0]))
    if word == "lacks":
        return str(lack_of(book, rest[0]))
    if word == "pile":
        return " ".join(f"{to} {amount}" for to, amount in book.pile(rest[0]))
    if word == "rings":
        return " ".join(">".join(ring) for ring in all_rings(book))
    if word == "stuck":
        return " ".join(f"{who}>{at}" for who, at in all_stuck(book))
    if word == "paid":
        return "yes" if is_paid(book) else "no"
    if word == "gift":
        gift = least_gift(book, rest[0], rest[1], amount=int(rest[2]))
        return "never" if gift is None else str(gift)
    return history_text(ledger)


class ByChance(Desks):

    def row(self, chance, ledgers):
        """A row by chance, mostly one that is not refused."""
        name = chance.choice(sorted(ledgers))
        book = ledgers[name].book()
        who, to = chance.choice(book.persons()), chance.choice(book.persons())
        if chance.random() < 0.6:
            deed = any_deed(chance, book, chance.choice([1, 60]))
            return " ".join([deed[0], name] + [str(part) for part in deed[1:]])
        if chance.random() < 0.1:
            return f"open {chance.choice(['a', 'b', 'c'])} {' '.join(chance.sample(TWELVE, chance.randint(1, 4)))}"
        if chance.random() < 0.1:
            return f"copy {name} {chance.choice(['a', 'b', 'c'])}"
        return chance.choice([
            f"back {name} {chance.randint(0, 6)}", f"cash {name} {who}", f"owes {name} {who}", f"lacks {name} {who}",
            f"fallen {name} {who}", f"pile {name} {who}", f"rings {name}", f"stuck {name}", f"paid {name}", f"history {name}",
            f"gift {name} {who} {to} {chance.randint(0, book.whole_of(to) + 1)}", f"pay {name} {who} {chance.randint(0, 3)}",
            f"clear {name} {who} {chance.randint(0, 3)}", f"give {name} x 1", f"put {name} {who} x 1", f"put {name} {who} {to} 0",
        ])

    def expected(self, ledgers, row):
        """What a row is answered with, done to ledgers of the same standing."""
        words = row.split(" ")
        if words[0] == "open":
            ledgers[words[1]] = Ledger(words[2:])
            return "ok"
        ledger = ledgers[words[1]]
        if words[0] == "copy":
            ledgers[words[2]] = ledger.copied()
            return "ok"
        if words[0] in ["put", "give", "pay", "clear", "settle"]:
            do(ledger, tuple(int(word) if word.isdigit() else word for word in words[:1] + words[2:]))
            return "ok"
        if words[0] == "back":
            ledger.back(int(words[2]))
            return str(len(ledger))
        return told_plainly(ledger, words)

    def test_rows_by_chance(self):
        kinds, refused = set(), 0
        for seed in range(60):
            chance = random.Random(seed)
            desk, ledgers = Desk(), {"a": Ledger(["l", "k", "jj"])}
            desk.say("open a l k jj")
            for _ in range(60):
                row = self.row(chance, ledgers)
                try:
                    told = self.expected(ledgers, row)
                except (ValueError, LookupError, RuntimeError) as error:
                    self.refused(desk, row, type(error), **vars(error))
                    refused += 1
                else:
                    self.assertEqual((row, desk.say(row)), (row, told))
                    kinds.add(row.split(" ")[0])
                for name, ledger in ledgers.items():
                    self.assertEqual(desk.say(f"history {name}"), history_text(ledger))
            for name, ledger in ledgers.items():
                self.assertEqual(read_history(desk.say(f"history {name}")).book(), ledger.book())
        self.assertEqual(kinds, set(SHAPES))
        self.assertGreater(refused, 100)

    def test_a_refused_row_changes_no_ledger(self):
        desk = desk_with("one", "two")
        rows = ["pay one eve 9", "open one A", "open two ann ann", "copy one TWO", "copy three one", "back two 9", "", None,
                "settle one two", "put two ann bob 0", "gift one x y 1"]
        for row in rows:
            with self.assertRaises((errors.BookError, LookupError, RuntimeError)):
                desk.say(row)
            self.assertEqual((desk.say("history one"), desk.say("history two")), (HISTORY, HISTORY))
            self.refused(desk, "paid three", NoSuch, who="three")


if __name__ == "__main__":
    unittest.main()
