"""The names, the arguments and the places that the interface of the document lists."""

import inspect
import unittest

from tiredpots import book, forms, notation, order, paying, rows, shades
from tiredpots.book import Book
from tiredpots.forms import Form
from tiredpots.order import Order

METHODS = {
    Form: {
        "__init__": "(self, terms=())", "__getitem__": None, "__setitem__": None, "__contains__": None,
        "__len__": None, "__iter__": None, "__eq__": None, "__add__": None, "__sub__": None, "__neg__": None,
        "__mul__": None, "__rmul__": None, "__iadd__": None, "__floordiv__": None, "__mod__": None,
        "__lshift__": None, "__abs__": None, "__call__": "(self, amounts)",
        "take": "(number)", "leave": "(number)",
    },
    Book: {
        "__init__": "(self, *, bound=24)", "bound": None, "change_bound": "(self, number)",
        "add_kind": "(self, name, *, hold='unsure')", "add_thirst": "(self, more, less)",
        "add_pot": "(self, name)", "add_cloth": "(self, name, kind)", "dip": "(self, cloth, pot)",
        "tell": "(self, more, less)", "tell_some": "(self, amount)",
        "kinds": "(self)", "thirsts": "(self)", "pots": "(self)", "cloths": "(self)", "facts": "(self)",
        "__len__": "(self)", "__iter__": "(self)", "kind_of": "(self, cloth)", "hold_of": "(self, kind)",
        "thirstier": "(self, first, second)", "previous": "(self, number)", "amounts": "(self)",
        "where": "(self, **asked)", "held": "(self, cloth, *, at=None)", "stain": "(self, pot, *, at=None)",
        "exposure": "(self, cloth, *, at=None)", "duplicate": "(self)",
    },
    Order: {
        "__init__": "(self, book)", "__contains__": None, "chain": "(self, more, less)",
        "above": "(self, amounts)", "there": "(self)",
    },
    paying.Answer: {"holds": "(self)"},
    paying.Sure: {"holds": "(self)"},
    paying.Open: {"holds": "(self)"},
}

FUNCTIONS = {
    forms.total: ("tiredpots.forms", "(*forms, times=1)"),
    order.pairs: ("tiredpots.order", "(book)"),
    order.told_there: ("tiredpots.order", "(book)"),
    order.faults: ("tiredpots.order", "(book, amounts)"),
    paying.ask: ("tiredpots.paying", "(book, form, *, strict=False)"),
    shades.compare: ("tiredpots.shades", "(book, first, second, *, at=None)"),
    shades.table: ("tiredpots.shades", "(book, *, at=None)"),
    shades.pot_taint: ("tiredpots.shades", "(book, pot, *, at=None)"),
    shades.cloth_taint: ("tiredpots.shades", "(book, cloth, *, at=None)"),
    shades.sure_ratio: ("tiredpots.shades", "(book, first, second)"),
    shades.foresee: ("tiredpots.shades", "(book, dips, first, second)"),
    rows.every_row: ("tiredpots.rows", "(work)"),
    rows.rank_row: ("tiredpots.rows", "(work, wishes)"),
    rows.dark_row: ("tiredpots.rows", "(book, work, wishes)"),
    rows.clean_row: ("tiredpots.rows", "(book, work, guarded)"),
    notation.write_book: ("tiredpots.notation", "(book)"),
    notation.read_book: ("tiredpots.notation", "(text)"),
}

CLASSES = {
    "tiredpots.forms": [forms.Form], "tiredpots.book": [book.Book], "tiredpots.order": [order.Order],
    "tiredpots.paying": [paying.Answer, paying.Sure, paying.Open], "tiredpots.shades": [shades.Ratio],
    "tiredpots.rows": [rows.Plan, rows.Barred, rows.Ring],
}


class InterfaceTests(unittest.TestCase):
    def test_methods_stand_in_their_class_with_their_arguments(self):
        for owner, methods in METHODS.items():
            for name, arguments in methods.items():
                self.assertIn(name, owner.__dict__)
                if arguments is not None:
                    self.assertEqual(arguments, str(inspect.signature(getattr(owner, name))), name)

    def test_functions_stand_in_their_file_with_their_arguments(self):
        for function, (place, arguments) in FUNCTIONS.items():
            self.assertEqual((place, arguments), (function.__module__, str(inspect.signature(function))))

    def test_classes_stand_in_their_file(self):
        for place, classes in CLASSES.items():
            for owner in classes:
                self.assertEqual(place, owner.__module__)

    def test_bound_is_a_property_and_take_and_leave_are_static(self):
        self.assertIsInstance(Book.__dict__["bound"], property)
        self.assertIsInstance(Form.__dict__["take"], staticmethod)
        self.assertIsInstance(Form.__dict__["leave"], staticmethod)

    def test_class_values_of_the_book(self):
        self.assertEqual((8, 32, 24), (Book.NAMES, Book.FACTS, Book.DIPS))


if __name__ == "__main__":
    unittest.main()
