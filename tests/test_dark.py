import random
import unittest

from samples import NO_NAMES, check_answer, closed_sets, contents, example_book, random_book, refused, sure_by_sets
from test_rows import random_work, rows_by_words
from tiredpots.book import Book
from tiredpots.errors import Full, Known, RingOfWishes, Unknown
from tiredpots.paying import ask
from tiredpots.rows import Barred, Plan, dark_row, rank_row


def book_of_row(book, row):
    """The book with the dips of the row."""
    longer = book.duplicate()
    for dip in row:
        longer.dip(*dip)
    return longer


def wish_form(book, wish):
    """The form of a wish in the book of a row."""
    return book.held(wish[0]) - book.held(wish[1])


def is_safe(book, row, wishes):
    """Whether the row of a small work is safe, by all closed sets."""
    longer = book_of_row(book, row)
    sets = closed_sets(longer)
    return all(sure_by_sets(longer, wish_form(longer, wish), False, sets) for wish in wishes)


def plain_book(bound=24):
    """Three cloths of a fast kind and one of a loose one, and two pots, without dips."""
    book = Book(bound=bound)
    book.add_kind("silk", hold="fast")
    book.add_kind("wool", hold="loose")
    for name, kind in [("bow", "silk"), ("cap", "silk"), ("hat", "silk"), ("rag", "wool")]:
        book.add_cloth(name, kind)
    book.add_pot("ash")
    book.add_pot("elm")
    return book


class DarkRowTests(unittest.TestCase):
    def check(self, book, work, wishes):
        """Checks what dark_row says by the words of point 19, and returns whether there is a plan."""
        before = contents(book), [(cloth, list(pots)) for cloth, pots in work], list(wishes)
        answer = dark_row(book, work, wishes)
        self.assertEqual(before, (contents(book), work, wishes))
        self.assertEqual(rank_row(work, wishes), answer.row)
        longer = book_of_row(book, answer.row)
        if type(answer) is Plan:
            self.assertEqual({"row", "answers"}, set(vars(answer)))
            self.assertIs(list, type(answer.answers))
            self.assertEqual(len(wishes), len(answer.answers))
            for wish, sure in zip(wishes, answer.answers):
                self.assertTrue(check_answer(self, longer, wish_form(longer, wish), sure))
            return True
        self.assertIs(Barred, type(answer))
        self.assertEqual({"row", "wish", "answer"}, set(vars(answer)))
        place = wishes.index(answer.wish)
        self.assertFalse(check_answer(self, longer, wish_form(longer, answer.wish), answer.answer))
        self.assertTrue(all(ask(longer, wish_form(longer, wish)).holds() for wish in wishes[:place]))
        return False

    def test_small_works_against_all_rows(self):
        found = {True: 0, False: 0}
        for seed in range(300):
            chance, book = random.Random(seed), random_book(seed, most=3)
            cloths = [name for name, _ in book.cloths()]
            work = random_work(chance, chance.sample(cloths, min(len(cloths), 3)), book.pots(), 2)
            wishes = [(chance.choice(cloths), chance.choice(cloths)) for _ in range(chance.choice([0, 1, 1, 2]))]
            safe = [row for row in rows_by_words(work) if is_safe(book, row, wishes)]
            try:
                plan = self.check(book, work, wishes)
            except RingOfWishes:
                continue
            self.assertEqual(bool(safe), plan, seed)
            found[plan] += 1
        self.assertGreater(min(found.values()), 50)

    def test_a_safe_row(self):
        book = plain_book()
        work = [("bow", ["ash"]), ("cap", ["ash", "ash"]), ("hat", ["ash"])]
        wishes = [("hat", "cap"), ("cap", "bow")]
        self.assertFalse(self.check(book, work, wishes))
        work = [("bow", ["ash"]), ("cap", ["ash"]), ("hat", ["ash"])]
        self.assertTrue(self.check(book, work, wishes))
        plan = dark_row(book, work, wishes)
        self.assertEqual([("hat", "ash"), ("cap", "ash"), ("bow", "ash")], plan.row)
        self.assertEqual([[(("take", 0), ("take", 1), 1)], [(("take", 1), ("take", 2), 1)]],
                         [answer.payments for answer in plan.answers])
        self.assertTrue(self.check(book, work, wishes + wishes + [("hat", "bow"), ("rag", "rag")]))

    def test_the_first_wish_that_does_not_hold(self):
        book = plain_book()
        work = [("bow", ["ash"]), ("cap", ["ash"]), ("hat", ["elm"])]
        wishes = [("bow", "cap"), ("hat", "rag"), ("bow", "hat"), ("cap", "hat"), ("rag", "hat")]
        barred = dark_row(book, work, wishes)
        self.assertEqual(([("bow", "ash"), ("cap", "ash"), ("hat", "elm")], ("bow", "hat")),
                         (barred.row, barred.wish))
        self.assertFalse(self.check(book, work, wishes))
        self.assertEqual(("rag", "hat"), dark_row(book, work, [wishes[0], wishes[4]]).wish)

    def test_cloths_outside_of_the_work(self):
        book = plain_book()
        for cloth in ["rag", "hat", "hat"]:
            book.dip(cloth, "ash")
        work = [("bow", ["ash"]), ("cap", ["elm"])]
        self.assertFalse(self.check(book, work, [("hat", "bow"), ("rag", "rag"), ("rag", "hat")]))
        self.assertTrue(self.check(book, work, [("hat", "bow"), ("rag", "rag")]))
        self.assertEqual(("rag", "hat"), dark_row(book, work, [("rag", "hat"), ("hat", "rag")]).wish)
        self.assertTrue(self.check(book, [], [("hat", "bow"), ("cap", "bow"), ("bow", "cap")]))
        self.assertFalse(self.check(book, [], [("bow", "cap"), ("bow", "hat")]))

    def test_without_wishes_or_dips(self):
        book = plain_book()
        for work in [[], [("bow", [])], [("cap", ["elm"]), ("bow", ["ash"])]]:
            self.assertTrue(self.check(book, work, []))
        self.assertEqual([], dark_row(Book(bound=0), [], []).row)
        self.assertEqual([], dark_row(Book(bound=0), [], []).answers)

    def test_great_works(self):
        for seed in range(20):
            chance, book = random.Random(seed), random_book(seed, most=6)
            cloths = [name for name, _ in book.cloths()]
            work = random_work(chance, cloths, book.pots(), 18 // len(cloths))
            wishes = [(cloths[k], cloths[chance.randint(k, len(cloths) - 1)]) for k in range(len(cloths))]
            self.check(book, work, [(darker, lighter) for darker, lighter in wishes if darker != lighter])

    def test_bounds(self):
        book = plain_book(bound=5)
        book.dip("rag", "elm")
        work = [("cap", ["ash", "ash"]), ("hat", ["elm", "ash"])]
        self.assertTrue(self.check(book, work, [("hat", "bow")]))
        work[0][1].append("ash")
        refused(self, Full, 5, dark_row, book, work, [("hat", "bow")])
        book.change_bound(6)
        self.assertTrue(self.check(book, work, [("hat", "bow")]))
        book.change_bound(1)
        refused(self, Full, 1, dark_row, book, [("cap", ["ash"])], [])
        self.assertTrue(self.check(book, [("cap", [])], []))

    def test_unknown_and_known_names_in_the_work(self):
        book = example_book()
        before = contents(book)
        rest = [("nobody", ["none"])]
        for bad in ["cap", "wool", "madder", *NO_NAMES]:
            for work in [[("shawl", []), (bad, ["none"]), *rest], [(bad, []), (bad, ["none"])]]:
                refused(self, Unknown, bad, dark_row, book, work, [("x", "x")])
        for bad in ["ash", "wool", "shawl", *NO_NAMES]:
            for work in [[("shawl", ["weld", bad, "none"]), *rest],
                         [("ribbon", ["weld"] * 99), ("shawl", [bad]), ("shawl", [])]]:
                refused(self, Unknown, bad, dark_row, book, work, [("x", "x")])
        twice = [("shawl", ["weld"]), ("ribbon", []), ("ribbon", ["none"]), ("shawl", []), *rest]
        refused(self, Known, "ribbon", dark_row, book, twice, [("x", "x"), ("shawl", "shawl")])
        refused(self, Unknown, "none", dark_row, book, [("shawl", ["none"]), ("shawl", [])], [])
        self.assertEqual(before, contents(book))

    def test_unknown_names_in_the_wishes(self):
        book = example_book()
        work = [("shawl", ["weld"] * 30)]
        ring = ("shawl", "shawl")
        for bad in ["cap", "wool", "madder", *NO_NAMES]:
            for wishes in [[(bad, "x")], [("ribbon", bad)], [("ribbon", "shawl"), ring, ("ribbon", bad), ("x", "x")],
                           [ring, (bad, "shawl")], [(bad, bad)]]:
                refused(self, Unknown, bad, dark_row, book, work, wishes)

    def test_rings_come_ahead_of_the_bound(self):
        book = example_book()
        work = [("shawl", ["weld"] * 30), ("ribbon", [])]
        for wishes, ring in [([("shawl", "shawl")], ["shawl"]),
                             ([("shawl", "ribbon"), ("ribbon", "ribbon")], ["ribbon"])]:
            refused(self, RingOfWishes, ring, dark_row, book, work, wishes)
        with self.assertRaises(RingOfWishes) as caught:
            dark_row(book, work, [("shawl", "ribbon"), ("ribbon", "shawl")])
        self.assertEqual(["ribbon", "shawl"], sorted(caught.exception.thing))
        refused(self, Full, 24, dark_row, book, work, [("ribbon", "shawl")])

    def test_plans_share_nothing(self):
        book = plain_book()
        work, wishes = [("bow", ["ash"]), ("cap", ["ash"])], [("bow", "cap"), ("bow", "cap")]
        first, second = dark_row(book, work, wishes), dark_row(book, work, wishes)
        first.row.clear()
        first.answers[0].payments.clear()
        first.answers[0].form[("take", 0)] = 7
        self.assertEqual([(("take", 0), ("take", 1), 1)], first.answers[1].payments)
        self.assertEqual(1, first.answers[1].form[("take", 0)])
        first.answers.clear()
        self.assertEqual((2, [("bow", "ash"), ("cap", "ash")]), (len(second.answers), second.row))
        self.assertEqual([("bow", ["ash"]), ("cap", ["ash"])], work)
        self.assertTrue(self.check(book, work, wishes))

    def test_asked_again_behind_changes(self):
        book = plain_book()
        work, wishes = [("rag", ["ash"]), ("cap", ["ash"])], [("rag", "cap")]
        self.assertFalse(self.check(book, work, wishes))
        book.add_thirst("wool", "silk")
        self.assertTrue(self.check(book, work, wishes))
        book.dip("cap", "elm")
        self.assertFalse(self.check(book, work, wishes))
        book.dip("rag", "ash")
        self.assertFalse(self.check(book, work, wishes))
        book.tell(("take", 1), ("take", 0))
        self.assertTrue(self.check(book, work, wishes))
        work[0][1][0] = "elm"
        self.assertFalse(self.check(book, work, wishes))

    def test_leaves_count_in_the_row(self):
        book = plain_book()
        work = [("rag", ["ash", "elm"]), ("cap", ["ash", "elm"])]
        book.add_thirst("wool", "silk")
        barred = dark_row(book, work, [("rag", "cap")])
        self.assertEqual(-1, barred.answer.form[("leave", 1)])
        self.assertTrue(self.check(book, [("rag", ["ash", "ash"]), ("cap", ["ash", "ash"])], [("rag", "cap")]))


if __name__ == "__main__":
    unittest.main()
