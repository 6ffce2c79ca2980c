"""The names, files and arguments of the interface."""

import importlib
import inspect
import unittest

from ringclear.books import Book
from ringclear.desk import Desk
from ringclear.histories import history_text
from ringclear.ledgers import Ledger

FUNCTIONS = {
    "names": {"is_name": "(thing)", "is_amount": "(thing)"},
    "booktexts": {"book_text": "(book)", "read_book": "(text)"},
    "rings": {
        "due_of": "(book, who)", "ring_of": "(book, who)", "trail_of": "(book, who)", "ends_at": "(book, who)",
        "all_rings": "(book)",
    },
    "steps": {
        "pay_on": "(book, who, amount)", "clear_ring": "(book, who, amount)", "most_of": "(book, who, *, word='pay')",
        "stepped": "(book, step)", "by_weaving": "(book, weaving)",
    },
    "settling": {"is_settled": "(book)", "settled_book": "(book)", "settling_steps": "(book)"},
    "vectors": {
        "fallen_of": "(book)", "ends_by": "(book, vector)", "is_covered": "(book, vector)", "greatest_of": "(book)",
        "joined_of": "(book, one, other)",
    },
    "ways": {"book_at": "(book, vector)", "way_to": "(book, vector)"},
    "lacks": {
        "owes_of": "(book, who)", "owed_to": "(book, who)", "lack_of": "(book, who)", "all_lacks": "(book)",
        "is_paid": "(book)", "all_stuck": "(book)",
    },
    "gifts": {
        "forecast_of": "(book, gifts)", "least_gift": "(book, to, of, *, amount=None)",
        "worth_of": "(book, to, of, number)",
    },
    "histories": {"history_text": "(ledger)", "read_history": "(text)"},
}
CLASSES = {
    ("books", "Book", "(persons)"): {
        "persons": "(self)", "cash": "(self, who)", "fallen": "(self, who)", "given": "(self, who)",
        "pile": "(self, who)", "notes": "(self, who)", "whole_of": "(self, who)", "fallen_to": "(self, who)",
        "has": "(self, who)", "put": "(self, who, to, amount)", "give": "(self, who, amount)",
        "let_fall": "(self, more)", "key": "(self)", "__eq__": "(self, other)", "__len__": "(self)",
    },
    ("ledgers", "Ledger", "(persons)"): {
        "book": "(self)", "log": "(self)", "put": "(self, who, to, amount)", "give": "(self, who, amount)",
        "step": "(self, step)", "weave": "(self, weaving)", "settle": "(self)", "back": "(self, many=1)",
        "copied": "(self)", "__len__": "(self)",
    },
    ("desk", "Desk", "()"): {"say": "(self, row)"},
}


def piled():
    """Ann and bob in a ring of 3 and 5, and eve with 2 who owes ann 4."""
    book = Book(["ann", "bob", "eve"]).give("eve", 2)
    return book.put("ann", "bob", 3).put("bob", "ann", 5).put("eve", "ann", 4)


def ledger():
    """A ledger of the same book."""
    told = Ledger(["ann", "bob", "eve"])
    told.give("eve", 2)
    told.put("ann", "bob", 3)
    told.put("bob", "ann", 5)
    told.put("eve", "ann", 4)
    return told


VECTOR = {"ann": 1, "bob": 1, "eve": 1}
STEP = ("pay", "eve", 1)
# Of each function its arguments in order, and what stands behind a star.
CALLS = {
    "names": {"is_name": ({"thing": "ann"}, {}), "is_amount": ({"thing": 3}, {})},
    "booktexts": {"book_text": ({"book": piled()}, {}), "read_book": ({"text": "person ann 0 0\n"}, {})},
    "rings": {
        "due_of": ({"book": piled(), "who": "eve"}, {}), "ring_of": ({"book": piled(), "who": "bob"}, {}),
        "trail_of": ({"book": piled(), "who": "eve"}, {}), "ends_at": ({"book": piled(), "who": "eve"}, {}),
        "all_rings": ({"book": piled()}, {}),
    },
    "steps": {
        "pay_on": ({"book": piled(), "who": "eve", "amount": 1}, {}),
        "clear_ring": ({"book": piled(), "who": "bob", "amount": 2}, {}),
        "most_of": ({"book": piled(), "who": "bob"}, {"word": "clear"}),
        "stepped": ({"book": piled(), "step": STEP}, {}), "by_weaving": ({"book": piled(), "weaving": [STEP]}, {}),
    },
    "settling": {name: ({"book": piled()}, {}) for name in ["is_settled", "settled_book", "settling_steps"]},
    "vectors": {
        "fallen_of": ({"book": piled()}, {}), "ends_by": ({"book": piled(), "vector": VECTOR}, {}),
        "is_covered": ({"book": piled(), "vector": VECTOR}, {}), "greatest_of": ({"book": piled()}, {}),
        "joined_of": ({"book": piled(), "one": VECTOR, "other": {"ann": 0, "bob": 2, "eve": 0}}, {}),
    },
    "ways": {name: ({"book": piled(), "vector": VECTOR}, {}) for name in ["book_at", "way_to"]},
    "lacks": {
        "owes_of": ({"book": piled(), "who": "eve"}, {}), "owed_to": ({"book": piled(), "who": "ann"}, {}),
        "lack_of": ({"book": piled(), "who": "eve"}, {}), "all_lacks": ({"book": piled()}, {}),
        "is_paid": ({"book": piled()}, {}), "all_stuck": ({"book": piled()}, {}),
    },
    "gifts": {
        "forecast_of": ({"book": piled(), "gifts": {"eve": 1}}, {}),
        "least_gift": ({"book": piled(), "to": "eve", "of": "eve"}, {"amount": 3}),
        "worth_of": ({"book": piled(), "to": "bob", "of": "bob", "number": 0}, {}),
    },
    "histories": {"history_text": ({"ledger": ledger()}, {}), "read_history": ({"text": "persons ann\nsettle\n"}, {})},
}
BOOK_CALLS = {
    "persons": {}, "cash": {"who": "eve"}, "fallen": {"who": "eve"}, "given": {"who": "eve"}, "pile": {"who": "eve"},
    "notes": {"who": "eve"}, "whole_of": {"who": "eve"}, "fallen_to": {"who": "eve"}, "has": {"who": "eve"},
    "put": {"who": "ann", "to": "eve", "amount": 3}, "give": {"who": "ann", "amount": 3}, "let_fall": {"more": VECTOR},
    "key": {},
}
LEDGER_CALLS = {
    "book": {}, "log": {}, "put": {"who": "ann", "to": "eve", "amount": 3}, "give": {"who": "ann", "amount": 3},
    "step": {"step": STEP}, "weave": {"weaving": [STEP, STEP]}, "settle": {}, "back": {"many": 2}, "copied": {},
}


def plain(thing):
    """A thing that can be compared: of a ledger its history."""
    return history_text(thing) if isinstance(thing, Ledger) else thing


class Interface(unittest.TestCase):

    def test_functions_are_defined_in_their_files(self):
        for file, functions in FUNCTIONS.items():
            module = importlib.import_module("ringclear." + file)
            for name, arguments in functions.items():
                with self.subTest(file=file, name=name):
                    function = getattr(module, name)
                    self.assertTrue(inspect.isfunction(function))
                    self.assertEqual((function.__module__, function.__name__), ("ringclear." + file, name))
                    self.assertEqual(str(inspect.signature(function)), arguments)

    def test_methods_are_defined_in_their_class(self):
        for (file, kind, arguments), methods in CLASSES.items():
            made = getattr(importlib.import_module("ringclear." + file), kind)
            self.assertEqual((made.__module__, str(inspect.signature(made))), ("ringclear." + file, arguments))
            for name, told in methods.items():
                with self.subTest(kind=kind, name=name):
                    self.assertEqual(str(inspect.signature(vars(made)[name])), told)


class Arguments(unittest.TestCase):

    def both(self, call, plain_ones, starred):
        """What is told by the places of the arguments, which is the same by their names, in any order."""
        by_place = plain(call(*plain_ones.values(), **starred))
        by_name = {name: plain_ones[name] for name in list(plain_ones)[::-1]}
        self.assertEqual(plain(call(**starred, **by_name)), by_place)
        if starred:
            with self.assertRaises(TypeError):
                call(*plain_ones.values(), *starred.values())
        with self.assertRaises(TypeError):
            call(*plain_ones.values(), **starred, more=1)
        return by_place

    def test_all_functions(self):
        for file, functions in FUNCTIONS.items():
            self.assertEqual(sorted(CALLS[file]), sorted(functions))
            for name, (plain_ones, starred) in CALLS[file].items():
                with self.subTest(file=file, name=name):
                    self.both(getattr(importlib.import_module("ringclear." + file), name), plain_ones, starred)

    def test_what_stands_behind_a_star_may_be_left_out(self):
        most_of = importlib.import_module("ringclear.steps").most_of
        least_gift = importlib.import_module("ringclear.gifts").least_gift
        self.assertEqual((most_of(piled(), "eve"), most_of(piled(), "eve", word="pay")), (2, 2))
        self.assertEqual((least_gift(piled(), "eve", "eve"), least_gift(piled(), "eve", "eve", amount=4)), (2, 2))

    def test_all_methods_of_a_book(self):
        self.both(Book, {"persons": ["ann", "bob"]}, {})
        for name, arguments in BOOK_CALLS.items():
            with self.subTest(name):
                self.both(getattr(piled(), name), arguments, {})

    def test_all_methods_of_a_ledger(self):
        self.both(Ledger, {"persons": ["ann", "bob"]}, {})
        for name, arguments in LEDGER_CALLS.items():
            with self.subTest(name):
                by_place, by_name = ledger(), ledger()
                one = getattr(by_place, name)(*arguments.values())
                other = getattr(by_name, name)(**{key: arguments[key] for key in list(arguments)[::-1]})
                self.assertEqual(plain(one), plain(other))
                self.assertEqual(history_text(by_place), history_text(by_name))
        one, other = ledger(), ledger()
        one.back()
        other.back(1)
        self.assertEqual(one.log(), other.log())

    def test_a_desk(self):
        desk = Desk()
        self.assertEqual(desk.say("open one ann"), "ok")
        self.assertEqual(desk.say(row="history one"), "persons ann\n")
        with self.assertRaises(TypeError):
            Desk("one")


class Constants(unittest.TestCase):

    def test_how_many_notes_a_book_takes(self):
        most = importlib.import_module("ringclear.books").MOST
        self.assertEqual((type(most), most), (int, 60))


if __name__ == "__main__":
    unittest.main()
