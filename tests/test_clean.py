import itertools
import random
import unittest

from samples import NO_NAMES, contents, example_book, random_book, refused
from test_dark import book_of_row, plain_book
from test_rows import random_work
from tiredpots.book import Book
from tiredpots.errors import Full, Known, Unknown
from tiredpots.rows import Plan, Ring, clean_row, every_row


def is_clean(book, row, guarded):
    """Whether the row is clean, by the words of point 20."""
    longer = book_of_row(book, row)
    dips, amounts = list(longer), longer.amounts()
    return not any(dips[late][0] in guarded and dips[early][1] == dips[late][1] and dips[early][0] != dips[late][0]
                   and ("leave", early) in amounts
                   for late in range(len(book), len(dips)) for early in range(late))


def musts_by_words(book, work, guarded):
    """All pairs of named dips of which the first must precede the second, by the words of point 20."""
    queues = {name: [pot for cloth, pot in book if cloth == name] for name, _ in book.cloths()}
    old = {name: len(pots) for name, pots in queues.items()}
    for cloth, pots in work:
        queues[cloth] = queues[cloth] + pots
    names = [(cloth, k) for cloth, pots in queues.items() for k in range(len(pots))]

    def has_leave(cloth, k):
        hold = book.hold_of(book.kind_of(cloth))
        return k > 0 and queues[cloth][k - 1] != queues[cloth][k] and hold != "fast"

    found = set()
    for (cloth, k), (other, j) in itertools.product(names, repeat=2):
        further, also = k >= old[cloth], j >= old[other]
        if (cloth == other and k < j or not further and also
                or further and cloth in guarded and cloth != other and queues[cloth][k] == queues[other][j]
                and has_leave(other, j)):
            found.add(((cloth, k), (other, j)))
    return found


class CleanRowTests(unittest.TestCase):
    def check(self, book, work, guarded):
        """Checks what clean_row says by the words of point 20, and returns whether there is a plan."""
        before = contents(book), [(cloth, list(pots)) for cloth, pots in work], list(guarded)
        answer = clean_row(book, work, guarded)
        self.assertEqual(before, (contents(book), work, guarded))
        if type(answer) is Plan:
            self.assertEqual({"row", "answers"}, set(vars(answer)))
            self.assertEqual([], answer.answers)
            self.assertIs(list, type(answer.row))
            for cloth, pots in work:
                self.assertEqual(pots, [pot for name, pot in answer.row if name == cloth])
            self.assertEqual(sum(len(pots) for _, pots in work), len(answer.row))
            self.assertTrue(is_clean(book, answer.row, guarded))
            return True
        self.assertIs(Ring, type(answer))
        self.assertEqual({"dips"}, set(vars(answer)))
        ring = answer.dips
        self.assertIs(list, type(ring))
        self.assertGreaterEqual(len(ring), 2)
        self.assertEqual(len(ring), len(set(ring)))
        self.assertTrue(set(zip(ring, [*ring[1:], ring[0]])) <= musts_by_words(book, work, guarded))
        return False

    def compare_with_all_rows(self, book, work, guarded):
        """Checks that there is a plan exactly if some row is clean, and returns whether there is one."""
        plan = self.check(book, work, guarded)
        self.assertEqual(any(is_clean(book, row, guarded) for row in every_row(work)), plan, work)
        return plan

    def test_small_works_against_all_rows(self):
        found = []
        for seed in range(500):
            chance, book = random.Random(seed), random_book(seed, most=5)
            cloths = [name for name, _ in book.cloths()]
            work = random_work(chance, chance.sample(cloths, min(len(cloths), 3)), book.pots(), 2)
            found.append(self.compare_with_all_rows(book, work, [cloth for cloth in cloths if chance.random() < 0.7]))
        self.assertGreater(min(found.count(True), found.count(False)), 25)

    def test_rings_of_further_dips_against_all_rows(self):
        found = []
        for seed in range(600):
            chance, book = random.Random(seed), plain_book()
            for name in ["mop", "net"]:
                book.add_cloth(name, "wool")
            work = random_work(chance, chance.sample(["rag", "mop", "net"], 3), ["ash", "elm"], 3)
            found.append(self.compare_with_all_rows(book, work, chance.sample(["rag", "mop", "net"], 2)))
        self.assertGreater(min(found.count(True), found.count(False)), 25)

    def test_great_works(self):
        for seed in range(40):
            chance, book = random.Random(seed), random_book(seed, most=8)
            cloths = [name for name, _ in book.cloths()]
            work = random_work(chance, cloths, book.pots(), 16 // len(cloths))
            for guarded in [[], cloths, cloths[:1], cloths[1:] * 2]:
                self.check(book, work, guarded)

    def test_a_guarded_cloth_goes_first(self):
        book = plain_book()
        work = [("rag", ["ash", "elm"]), ("bow", ["elm"])]
        self.assertTrue(self.check(book, work, ["bow"]))
        row = clean_row(book, work, ["bow"]).row
        self.assertLess(row.index(("bow", "elm")), row.index(("rag", "elm")))

    def test_a_leave_of_the_book_bars_every_row(self):
        book = plain_book()
        book.dip("rag", "ash")
        book.dip("rag", "elm")
        self.assertTrue(self.check(book, [("bow", ["ash"])], ["bow"]))
        self.assertFalse(self.check(book, [("bow", ["elm"])], ["bow"]))
        self.assertEqual([("bow", 0), ("rag", 1)], sorted(clean_row(book, [("bow", ["elm"])], ["bow"]).dips))
        self.assertTrue(self.check(book, [("bow", ["elm"])], ["cap", "rag"]))
        self.assertTrue(self.check(book, [("rag", ["elm", "ash", "elm"])], ["rag"]))

    def test_only_what_a_guarded_cloth_is_still_to_do_counts(self):
        book = plain_book()
        for dip in [("rag", "ash"), ("rag", "elm"), ("bow", "elm")]:
            book.dip(*dip)
        self.assertTrue(self.check(book, [("bow", []), ("rag", ["ash"])], ["bow"]))
        self.assertFalse(self.check(book, [("bow", ["ash", "elm"])], ["bow"]))

    def test_holds(self):
        for hold, clean in [("fast", True), ("loose", False), ("unsure", False)]:
            book = Book()
            book.add_kind("wool", hold=hold)
            for name in ["ash", "elm"]:
                book.add_pot(name)
                book.add_cloth(name, "wool")
            for pot in ["ash", "elm"]:
                book.dip("ash", pot)
            self.assertIs(clean, self.check(book, [("elm", ["elm"])], ["elm"]))

    def test_two_cloths_that_bar_each_other(self):
        book = plain_book()
        book.add_cloth("mop", "wool")
        for cloth in ["rag", "mop"]:
            book.dip(cloth, "ash")
        work = [("rag", ["elm"]), ("mop", ["elm"])]
        self.assertFalse(self.check(book, work, ["rag", "mop"]))
        self.assertTrue(self.check(book, work, ["rag"]))
        self.assertEqual([("rag", "elm"), ("mop", "elm")], clean_row(book, work, ["rag"]).row)
        self.assertEqual([("mop", "elm"), ("rag", "elm")], clean_row(book, work, ["mop"]).row)

    def test_a_long_ring(self):
        book = plain_book()
        book.add_kind("rush")
        for pot in ["fir", "oak"]:
            book.add_pot(pot)
        for cloth in ["a", "b", "c"]:
            book.add_cloth(cloth, "rush")
        work = [("a", ["fir", "ash", "elm"]), ("b", ["fir", "elm", "oak"]), ("c", ["fir", "oak", "ash"])]
        for turned in [work, work[::-1], [(cloth, pots[:2]) for cloth, pots in work]]:
            for guarded in [[], ["a"], ["a", "b"], ["a", "b", "c"]]:
                self.compare_with_all_rows(book, turned, guarded)

    def test_guarded_cloths(self):
        book = plain_book()
        for dip in [("rag", "ash"), ("rag", "elm")]:
            book.dip(*dip)
        work = [("cap", ["elm", "ash"]), ("hat", [])]
        self.assertTrue(self.check(book, work, []))
        self.assertTrue(self.check(book, work, ["bow", "rag", "hat", "bow", "rag"]))
        self.assertFalse(self.check(book, work, ["cap", "bow", "cap"]))

    def test_without_dips(self):
        book = plain_book()
        for work in [[], [("bow", []), ("rag", [])]]:
            for guarded in [[], ["bow"], ["cap", "cap", "rag"]]:
                self.assertTrue(self.check(book, work, guarded))
        self.assertEqual(([], []), (clean_row(Book(bound=0), [], []).row, clean_row(Book(bound=0), [], []).answers))

    def test_unknown_and_known_names(self):
        book = example_book()
        before = contents(book)
        rest = [("nobody", ["none"])]
        for bad in ["cap", "wool", "madder", *NO_NAMES]:
            for work in [[("shawl", []), (bad, ["none"]), *rest], [(bad, []), (bad, ["none"])]]:
                refused(self, Unknown, bad, clean_row, book, work, ["nobody"])
            for guarded in [[bad], ["shawl", "shawl", bad, "nobody"], [bad, bad]]:
                refused(self, Unknown, bad, clean_row, book, [("shawl", ["weld"] * 30)], guarded)
        for bad in ["ash", "wool", "shawl", *NO_NAMES]:
            for work in [[("shawl", ["weld", bad, "none"]), *rest],
                         [("ribbon", ["weld"] * 99), ("shawl", [bad]), ("shawl", [])]]:
                refused(self, Unknown, bad, clean_row, book, work, ["nobody"])
        twice = [("shawl", ["weld"]), ("ribbon", []), ("ribbon", ["none"]), ("shawl", []), *rest]
        refused(self, Known, "ribbon", clean_row, book, twice, ["nobody"])
        refused(self, Known, "shawl", clean_row, book, [("shawl", ["weld"] * 30), ("shawl", [])], [])
        self.assertEqual(before, contents(book))

    def test_bounds(self):
        book = plain_book(bound=5)
        book.dip("rag", "elm")
        work = [("cap", ["ash", "ash"]), ("hat", ["elm", "ash"])]
        self.assertTrue(self.check(book, work, ["cap"]))
        work[1][1].append("ash")
        refused(self, Full, 5, clean_row, book, work, ["cap"])
        # A ring of dips does not come ahead of the bound.
        book.dip("rag", "ash")
        book.change_bound(2)
        refused(self, Full, 2, clean_row, book, [("cap", ["ash"])], ["cap"])
        book.change_bound(3)
        self.assertFalse(self.check(book, [("cap", ["ash"])], ["cap"]))

    def test_plans_share_nothing(self):
        book = plain_book()
        work, guarded = [("rag", ["ash", "elm"]), ("bow", ["elm"])], ["bow"]
        first, second = clean_row(book, work, guarded), clean_row(book, work, guarded)
        row = list(second.row)
        first.row.clear()
        first.answers.append(1)
        self.assertEqual((row, []), (second.row, second.answers))
        self.assertEqual([("rag", ["ash", "elm"]), ("bow", ["elm"])], work)
        book.dip("rag", "ash")
        book.dip("rag", "elm")
        first, second = clean_row(book, work, guarded), clean_row(book, work, guarded)
        first.dips.clear()
        self.assertGreaterEqual(len(second.dips), 2)

    def test_asked_again_behind_changes(self):
        book = plain_book()
        work, guarded = [("bow", ["elm"]), ("rag", ["elm"])], ["bow"]
        self.assertTrue(self.check(book, work, guarded))
        book.dip("rag", "ash")
        self.assertTrue(self.check(book, work, guarded))
        book.dip("rag", "elm")
        self.assertFalse(self.check(book, work, guarded))
        guarded[0] = "cap"
        self.assertTrue(self.check(book, work, guarded))
        guarded.append("bow")
        self.assertFalse(self.check(book, work, guarded))
        work[0][1].clear()
        self.assertTrue(self.check(book, work, guarded))


if __name__ == "__main__":
    unittest.main()
