"""What cloths hold, what stains pots, and to what cloths are exposed, at each moment."""

import unittest

from samples import NO_WHOLE, contents, example_book, random_book, refused
from tiredpots.book import Book
from tiredpots.errors import BadNumber, Unknown
from tiredpots.forms import Form


def expected_forms(book, at):
    """The forms of point 15, built dip by dip."""
    held = {name: Form() for name, kind in book.cloths()}
    exposure = {name: Form() for name, kind in book.cloths()}
    stain = {pot: Form() for pot in book.pots()}
    left = []
    for number, (cloth, pot) in list(enumerate(book))[:at]:
        for earlier, other, where in left:
            if where == pot and other != cloth:
                exposure[cloth] += Form.leave(earlier)
        held[cloth] += Form.take(number)
        if ("leave", number) in book.amounts():
            held[cloth] += -Form.leave(number)
            stain[pot] += Form.leave(number)
            left.append((number, cloth, pot))
    return held, stain, exposure


class MomentTests(unittest.TestCase):
    def test_the_example(self):
        book = example_book()
        self.assertEqual([(("take", 0), 1), (("take", 2), 1), (("leave", 2), -1)], list(book.held("shawl")))
        self.assertEqual([(("take", 0), 1)], list(book.held("shawl", at=2)))
        self.assertEqual([[], [(("leave", 2), 1)]], [list(book.stain("madder")), list(book.stain("weld"))])
        self.assertEqual([], list(book.stain("weld", at=2)))
        self.assertEqual([(("leave", 2), 1)], list(book.exposure("ribbon")))
        self.assertEqual([], list(book.exposure("ribbon", at=3)))
        self.assertEqual([], list(book.exposure("shawl")))

    def test_each_moment_of_many_books(self):
        for seed in range(80):
            book = random_book(seed)
            for at in range(len(book) + 1):
                held, stain, exposure = expected_forms(book, at)
                self.assertEqual(held, {name: book.held(name, at=at) for name in held})
                self.assertEqual(stain, {pot: book.stain(pot, at=at) for pot in stain})
                self.assertEqual(exposure, {name: book.exposure(name, at=at) for name in exposure})

    def test_the_moment_none_is_the_last_one(self):
        for seed in range(20):
            book = random_book(seed)
            end = len(book)
            for name, _ in book.cloths():
                self.assertEqual(book.held(name, at=end), book.held(name))
                self.assertEqual(book.held(name, at=end), book.held(name, at=None))
                self.assertEqual(book.exposure(name, at=end), book.exposure(name))
            for pot in book.pots():
                self.assertEqual(book.stain(pot, at=end), book.stain(pot))

    def test_a_leave_that_counts_several_times(self):
        book = Book()
        book.add_kind("wool")
        for name in ["cap", "hat"]:
            book.add_cloth(name, "wool")
        for pot in ["ash", "elm"]:
            book.add_pot(pot)
        for cloth, pot in [("cap", "ash"), ("cap", "elm"), ("hat", "elm"), ("hat", "ash"), ("hat", "elm")]:
            book.dip(cloth, pot)
        self.assertEqual([(("leave", 1), 2)], list(book.exposure("hat")))
        self.assertEqual([(("leave", 1), 1)], list(book.exposure("hat", at=4)))
        self.assertEqual([], list(book.exposure("cap")))
        book.dip("cap", "elm")
        book.dip("cap", "ash")
        self.assertEqual([(("leave", 3), 1), (("leave", 4), 1)], list(book.exposure("cap")))

    def test_cloths_and_pots_without_dips(self):
        book = example_book()
        book.add_cloth("rag", "wool")
        book.add_pot("woad")
        for at in [None, 0, 4]:
            self.assertEqual([Form()] * 3,
                             [book.held("rag", at=at), book.stain("woad", at=at), book.exposure("rag", at=at)])

    def test_unknown_names(self):
        book = example_book()
        for bad in ["woad", "", True, None, 0, ("shawl",)]:
            for at in [None, 0, 99, True]:
                refused(self, Unknown, bad, book.held, bad, at=at)
                refused(self, Unknown, bad, book.stain, bad, at=at)
                refused(self, Unknown, bad, book.exposure, bad, at=at)
        refused(self, Unknown, "weld", book.held, "weld")
        refused(self, Unknown, "shawl", book.stain, "shawl")
        refused(self, Unknown, "weld", book.exposure, "weld")

    def test_moments_that_are_none(self):
        book = example_book()
        before = contents(book)
        for bad in [-1, 5, 10 ** 100, *[value for value in NO_WHOLE if value is not None]]:
            refused(self, BadNumber, bad, book.held, "shawl", at=bad)
            refused(self, BadNumber, bad, book.stain, "weld", at=bad)
            refused(self, BadNumber, bad, book.exposure, "shawl", at=bad)
        self.assertEqual(before, contents(book))

    def test_the_forms_are_new(self):
        book = example_book()
        for ask, name in [(book.held, "shawl"), (book.stain, "weld"), (book.exposure, "ribbon")]:
            before = list(ask(name))
            form = ask(name)
            form[("take", 9)] = 5
            form += form
            self.assertEqual(before, list(ask(name)))

    def test_later_dips_do_not_change_a_form(self):
        book = example_book()
        form = book.held("shawl")
        book.dip("shawl", "madder")
        self.assertEqual([(("take", 0), 1), (("take", 2), 1), (("leave", 2), -1)], list(form))


if __name__ == "__main__":
    unittest.main()
