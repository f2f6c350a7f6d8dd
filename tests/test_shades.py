import itertools
import unittest

from samples import (
    NO_NAMES, NO_WHOLE, ROOMS, closed_sets, contents, example_book, full_book, random_book, refused, sure_by_sets)
from tiredpots.book import Book
from tiredpots.errors import BadNumber, Full, Unknown
from tiredpots.notation import write_book
from tiredpots.order import Order, pairs
from tiredpots.shades import cloth_taint, compare, foresee, pot_taint, table

T0, T1, T2, L2, T3 = ("take", 0), ("take", 1), ("take", 2), ("leave", 2), ("take", 3)
TURNED = {"=": "=", ">": "<", "<": ">", ">=": "<=", "<=": ">=", "?": "?"}
FAR_MOMENTS = [-1, -10 ** 30, 10 ** 30, *[value for value in NO_WHOLE if value is not None]]


def expected_mark(book, first, second, at=None, sets=None):
    """The mark of two cloths by the words of point 16."""
    up = book.held(first, at=at) - book.held(second, at=at)
    sets = closed_sets(book) if sets is None else sets
    rises, falls = [sure_by_sets(book, form, False, sets) for form in (up, -up)]
    if rises and falls:
        return "="
    for form, sure, mark in [(up, rises, ">"), (-up, falls, "<")]:
        if sure:
            return mark if sure_by_sets(book, form, True, sets) else mark + "="
    return "?"


def expected_taint(book, form, sets):
    """The taint by a form, by the words of point 17."""
    if not list(form):
        return "never"
    return "surely" if sure_by_sets(book, form, True, sets) else "perhaps"


def split_table(text):
    """The names and the marks of a table, with a check of the widths."""
    found = []
    for line in text.split("\n")[:-1]:
        name, marks = line[:12], line[12:]
        found.append((name, [marks[at:at + 3] for at in range(0, len(marks), 3)]))
    return found


def every_mark_book():
    """A book in which the cloths a to f have all six marks: c, d and e are equal, and f is alone in its pot."""
    book = Book()
    book.add_kind("silk", hold="fast")
    book.add_pot("ash")
    book.add_pot("elm")
    for name in "abcdef":
        book.add_cloth(name, "silk")
    for name in "abcde":
        book.dip(name, "ash")
    book.dip("a", "ash")
    book.tell_some(("take", 5))
    book.dip("f", "elm")
    book.tell(("take", 4), ("take", 2))
    return book


def ask_all(book):
    """All that is asked of a book, to see whether it is as before."""
    moments = [None, *range(len(book) + 1)]
    cloths = [name for name, _ in book.cloths()]
    return (write_book(book), contents(book), book.amounts(), [book.previous(k) for k in range(len(book))],
            pairs(book), Order(book).there(),
            [[list(form(cloth, at=at)) for form in (book.held, book.exposure) for cloth in cloths] for at in moments],
            [[list(book.stain(pot, at=at)) for pot in book.pots()] for at in moments],
            [table(book, at=at) for at in moments[::4]])


class CompareTests(unittest.TestCase):
    def test_the_example(self):
        book = example_book()
        self.assertEqual([">=", "?"], [compare(book, "shawl", "ribbon", at=2), compare(book, "shawl", "ribbon")])

    def test_each_mark(self):
        book = every_mark_book()
        for first, second, mark in [("a", "b", ">"), ("b", "a", "<"), ("b", "c", ">="), ("c", "b", "<="),
                                    ("c", "d", "="), ("e", "c", "="), ("a", "f", "?"), ("f", "b", "?")]:
            self.assertEqual(mark, compare(book, first, second))
            self.assertEqual(mark, expected_mark(book, first, second))

    def test_the_worlds_are_those_of_the_whole_book(self):
        book = every_mark_book()
        # What dip 4 takes shows that dips 2 and 3 take as much as each other.
        self.assertEqual("=", compare(book, "c", "d", at=4))
        # What dip 5 takes shows that dip 0 takes something.
        self.assertEqual(">", compare(book, "a", "f", at=1))
        self.assertEqual(">=", compare(book, "a", "b", at=5))

    def test_small_books_at_every_moment(self):
        for seed in range(60):
            book = random_book(seed, most=7)
            sets = closed_sets(book)
            cloths = [name for name, _ in book.cloths()]
            for at in [None, *range(len(book) + 1)]:
                for first, second in itertools.product(cloths, repeat=2):
                    mark = compare(book, first, second, at=at)
                    self.assertEqual(expected_mark(book, first, second, at, sets), mark)
                    self.assertEqual(TURNED[mark], compare(book, second, first, at=at))

    def test_a_cloth_with_itself(self):
        for seed in range(20):
            book = random_book(seed)
            for name, _ in book.cloths():
                for at in [None, *range(len(book) + 1)]:
                    self.assertEqual("=", compare(book, name, name, at=at))

    def test_cloths_without_dips(self):
        book = full_book()
        for first, second in itertools.product(ROOMS, repeat=2):
            self.assertEqual("=", compare(book, first, second, at=0))

    def test_refused(self):
        book = example_book()
        for bad in ["silk", "madder", "cap", *NO_NAMES]:
            for at in [None, 2, 99, True]:
                refused(self, Unknown, bad, compare, book, bad, "shawl", at=at)
                refused(self, Unknown, bad, compare, book, "shawl", bad, at=at)
                refused(self, Unknown, bad, compare, book, bad, bad, at=at)
                refused(self, Unknown, bad, compare, book, bad, "other", at=at)
        for bad in [5, *FAR_MOMENTS]:
            refused(self, BadNumber, bad, compare, book, "shawl", "ribbon", at=bad)
            refused(self, BadNumber, bad, compare, book, "shawl", "shawl", at=bad)

    def test_the_book_stays_and_is_asked_again(self):
        book = example_book()
        before = contents(book)
        self.assertEqual("?", compare(book, "shawl", "ribbon"))
        self.assertEqual(before, contents(book))
        book.tell(T2, L2)
        book.dip("shawl", "weld")
        self.assertEqual("?", compare(book, "shawl", "ribbon"))
        book.tell(("take", 4), T3)
        self.assertEqual(">=", compare(book, "shawl", "ribbon"))
        self.assertEqual(">=", compare(book, "shawl", "ribbon", at=2))
        book.dip("shawl", "weld")
        book.tell_some(("take", 5))
        self.assertEqual(">", compare(book, "shawl", "ribbon"))
        self.assertEqual(">=", compare(book, "shawl", "ribbon", at=5))
        early = Book()
        for kind in ("wool", "silk"):
            early.add_kind(kind)
            early.add_cloth(kind, kind)
        early.add_pot("ash")
        early.dip("wool", "ash")
        early.dip("silk", "ash")
        self.assertEqual("?", compare(early, "wool", "silk"))
        early.add_thirst("wool", "silk")
        self.assertEqual(">=", compare(early, "wool", "silk"))


class TableTests(unittest.TestCase):
    def test_the_example(self):
        book = example_book()
        self.assertEqual("shawl         =  ?\nribbon        ?  =\n", table(book))
        self.assertEqual("shawl         = >=\nribbon       <=  =\n", table(book, at=2))
        self.assertEqual("shawl         =  =\nribbon        =  =\n", table(book, at=0))

    def test_without_cloths(self):
        book = Book()
        self.assertEqual("", table(book))
        self.assertEqual("", table(book, at=0))
        for bad in [1, *FAR_MOMENTS]:
            refused(self, BadNumber, bad, table, book, at=bad)

    def test_one_cloth_without_dips(self):
        book = Book()
        book.add_kind("silk")
        book.add_cloth("a" * 12, "silk")
        self.assertEqual("a" * 12 + "  =\n", table(book))

    def test_all_marks(self):
        book = every_mark_book()
        self.assertEqual("a             =  >  >  >  >  ?\n"
                         "b             <  = >= >= >=  ?\n"
                         "c             < <=  =  =  =  ?\n"
                         "d             < <=  =  =  =  ?\n"
                         "e             < <=  =  =  =  ?\n"
                         "f             ?  ?  ?  ?  ?  =\n", table(book))

    def test_many_books_at_many_moments(self):
        for book in [full_book(), *map(random_book, range(15))]:
            cloths = [name for name, _ in book.cloths()]
            for at in [None, *range(0, len(book) + 1, 5)]:
                expected = [(name.ljust(12), [compare(book, name, other, at=at).rjust(3) for other in cloths])
                            for name in cloths]
                text = table(book, at=at)
                self.assertEqual(expected, split_table(text))
                self.assertTrue(text.endswith("\n"))

    def test_refused(self):
        book = example_book()
        for bad in [5, *FAR_MOMENTS]:
            refused(self, BadNumber, bad, table, book, at=bad)

    def test_asked_again_behind_changes(self):
        book = example_book()
        before = contents(book)
        first = table(book)
        self.assertEqual(first, table(book))
        self.assertEqual(before, contents(book))
        book.tell(T2, L2)
        book.tell(L2, T2)
        book.tell(T0, T3)
        book.dip("shawl", "weld")
        book.tell(T1, ("take", 4))
        self.assertEqual("?", compare(book, "shawl", "ribbon"))
        book.tell(("take", 4), T3)
        self.assertEqual("shawl         = >=\nribbon       <=  =\n", table(book))
        book.add_cloth("cap", "wool")
        self.assertEqual("shawl         = >=  >\nribbon       <=  = >=\ncap           < <=  =\n", table(book))
        book.tell_some(T3)
        self.assertEqual("shawl         = >=  >\nribbon       <=  =  >\ncap           <  <  =\n", table(book))


class TaintTests(unittest.TestCase):
    def test_the_example(self):
        book = example_book()
        self.assertEqual(["surely", "surely", "never"],
                         [pot_taint(book, "weld"), cloth_taint(book, "ribbon"), cloth_taint(book, "shawl")])
        self.assertEqual(["never", "never"], [pot_taint(book, "madder"), pot_taint(book, "weld", at=2)])
        self.assertEqual(["surely", "never"], [pot_taint(book, "weld", at=3), cloth_taint(book, "ribbon", at=3)])

    def test_perhaps(self):
        book = Book()
        book.add_kind("wool")
        for name in ["ash", "elm"]:
            book.add_pot(name)
            book.add_cloth(name, "wool")
        for dip in [("ash", "ash"), ("ash", "elm"), ("elm", "elm")]:
            book.dip(*dip)
        self.assertEqual(["perhaps", "perhaps"], [pot_taint(book, "elm"), cloth_taint(book, "elm")])
        book.tell_some(("take", 0))
        self.assertEqual(["perhaps", "perhaps"], [pot_taint(book, "elm"), cloth_taint(book, "elm")])
        book.dip("elm", "ash")
        book.tell(("leave", 3), ("take", 0))
        self.assertEqual(["surely", "perhaps"], [pot_taint(book, "ash"), pot_taint(book, "elm")])
        book.tell_some(("leave", 1))
        self.assertEqual(["surely", "surely"], [pot_taint(book, "elm"), cloth_taint(book, "elm")])
        self.assertEqual("never", cloth_taint(book, "ash"))
        book.dip("ash", "ash")
        self.assertEqual("surely", cloth_taint(book, "ash"))
        self.assertEqual("never", cloth_taint(book, "ash", at=4))

    def test_small_books_at_every_moment(self):
        for seed in range(80):
            book = random_book(seed, most=8)
            sets = closed_sets(book)
            before = contents(book)
            for at in [None, *range(len(book) + 1)]:
                for pot in book.pots():
                    self.assertEqual(expected_taint(book, book.stain(pot, at=at), sets), pot_taint(book, pot, at=at))
                for name, _ in book.cloths():
                    self.assertEqual(expected_taint(book, book.exposure(name, at=at), sets),
                                     cloth_taint(book, name, at=at))
            self.assertEqual(before, contents(book))

    def test_refused(self):
        book = example_book()
        for taint, good, wrong in [(pot_taint, "weld", "shawl"), (cloth_taint, "shawl", "weld")]:
            for bad in [wrong, "silk", *NO_NAMES]:
                for at in [None, 0, 99, False]:
                    refused(self, Unknown, bad, taint, book, bad, at=at)
            for bad in [5, *FAR_MOMENTS]:
                refused(self, BadNumber, bad, taint, book, good, at=bad)


class ForeseeTests(unittest.TestCase):
    def test_the_example(self):
        book = example_book()
        before = ask_all(book)
        self.assertEqual("?", foresee(book, [], "shawl", "ribbon"))
        self.assertEqual("?", foresee(book, [("shawl", "madder")], "shawl", "ribbon"))
        self.assertEqual(before, ask_all(book))
        self.assertEqual(4, book.dip("ribbon", "madder"))

    def test_as_the_book_with_these_dips(self):
        for seed in range(60):
            whole = random_book(seed, most=9)
            dips = list(whole)
            for many in {0, len(dips) // 2, len(dips)}:
                book = whole.duplicate()
                book.add_pot("new")
                further = [(cloth, pot) for cloth, pot in dips[:len(dips) - many]] + [("cape", "new")] * 2
                before, given = ask_all(book), list(further)
                longer = book.duplicate()
                for dip in further:
                    longer.dip(*dip)
                for (first, _), (second, _) in itertools.product(book.cloths(), repeat=2):
                    self.assertEqual(compare(longer, first, second), foresee(book, further, first, second))
                self.assertEqual(given, further)
                self.assertEqual(before, ask_all(book))

    def test_dips_that_change_the_mark(self):
        book = Book()
        book.add_kind("wool")
        book.add_pot("ash")
        for name in ["cap", "hat"]:
            book.add_cloth(name, "wool")
        self.assertEqual("=", foresee(book, [], "cap", "hat"))
        self.assertEqual(">=", foresee(book, [("cap", "ash")], "cap", "hat"))
        self.assertEqual("<=", foresee(book, [("hat", "ash"), ("cap", "ash")], "cap", "hat"))
        self.assertEqual("=", compare(book, "cap", "hat"))
        self.assertEqual(0, book.dip("cap", "ash"))

    def test_refused(self):
        book = example_book()
        book.change_bound(6)
        before = ask_all(book)
        good = ("shawl", "weld")
        for bad in ["cap", "silk", *NO_NAMES]:
            for first in ["shawl", "nobody"]:
                refused(self, Unknown, bad, foresee, book, [good, (bad, "weld"), (1, 1), good], first, "x")
                refused(self, Unknown, bad, foresee, book, [good, ("shawl", bad), (1, 1), good], first, "x")
                refused(self, Unknown, bad, foresee, book, [good, (bad, bad)], first, first)
            refused(self, Unknown, bad, foresee, book, [good], bad, "other")
            refused(self, Unknown, bad, foresee, book, [], "shawl", bad)
        for dips in [[good] * 3, [good] * 2 + [("ribbon", "weld"), ("nobody", "weld")]]:
            refused(self, Full, 6, foresee, book, dips, "nobody", "shawl")
        refused(self, Unknown, "nobody", foresee, book, [good, good, ("nobody", "weld")], "shawl", "ribbon")
        self.assertEqual(before, ask_all(book))
        self.assertEqual("?", foresee(book, [good] * 2, "shawl", "ribbon"))
        self.assertEqual([4, 5], [book.dip(*good), book.dip(*good)])
        refused(self, Full, 6, foresee, book, [good], "shawl", "ribbon")
        self.assertEqual(compare(book, "shawl", "ribbon"), foresee(book, [], "shawl", "ribbon"))


if __name__ == "__main__":
    unittest.main()
