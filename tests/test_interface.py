"""The names, files and arguments of the interface, as far as it is built."""

import importlib
import inspect
import unittest

FUNCTIONS = {
    "names": {"is_name": "(thing)", "is_amount": "(thing)"},
    "booktexts": {"book_text": "(book)", "read_book": "(text)"},
    "rings": {
        "due_of": "(book, who)", "ring_of": "(book, who)", "trail_of": "(book, who)", "ends_at": "(book, who)",
        "all_rings": "(book)",
    },
    "steps": {
        "pay_on": "(book, who, amount)", "clear_ring": "(book, who, amount)", "most_of": "(book, who, *, word='pay')",
        "stepped": "(book, step)", "by_weaving": "(book, weaving)",
    },
    "settling": {"is_settled": "(book)", "settled_book": "(book)", "settling_steps": "(book)"},
    "vectors": {
        "fallen_of": "(book)", "ends_by": "(book, vector)", "is_covered": "(book, vector)", "greatest_of": "(book)",
        "joined_of": "(book, one, other)",
    },
    "ways": {"book_at": "(book, vector)", "way_to": "(book, vector)"},
    "lacks": {
        "owes_of": "(book, who)", "owed_to": "(book, who)", "lack_of": "(book, who)", "all_lacks": "(book)",
        "is_paid": "(book)", "all_stuck": "(book)",
    },
}
METHODS = {
    "persons": "(self)", "cash": "(self, who)", "fallen": "(self, who)", "given": "(self, who)", "pile": "(self, who)",
    "notes": "(self, who)", "whole_of": "(self, who)", "fallen_to": "(self, who)", "has": "(self, who)",
    "put": "(self, who, to, amount)", "give": "(self, who, amount)", "let_fall": "(self, more)", "key": "(self)",
    "__eq__": "(self, other)", "__len__": "(self)",
}


class Interface(unittest.TestCase):

    def test_functions_are_defined_in_their_files(self):
        for file, functions in FUNCTIONS.items():
            module = importlib.import_module("ringclear." + file)
            for name, arguments in functions.items():
                with self.subTest(file=file, name=name):
                    function = getattr(module, name)
                    self.assertTrue(inspect.isfunction(function))
                    self.assertEqual((function.__module__, function.__name__), ("ringclear." + file, name))
                    self.assertEqual(str(inspect.signature(function)), arguments)

    def test_methods_are_defined_in_their_class(self):
        made = importlib.import_module("ringclear.books").Book
        self.assertEqual((made.__module__, str(inspect.signature(made))), ("ringclear.books", "(persons)"))
        for name, arguments in METHODS.items():
            with self.subTest(name):
                self.assertEqual(str(inspect.signature(vars(made)[name])), arguments)


if __name__ == "__main__":
    unittest.main()
