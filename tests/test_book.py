import itertools
import unittest

from samples import NO_AMOUNTS, NO_NAMES, NO_WHOLE, ROOMS, contents, example_book, full_book, random_book, refused
from tiredpots.book import Book
from tiredpots.errors import BadAmount, BadHold, BadName, BadNumber, Full, Known, Unknown

HOLDS = ["fast", "loose", "unsure"]
NO_BOUNDS = [-1, 25, 10 ** 100, -10 ** 100, *NO_WHOLE]


def small_book():
    """One kind, pot and cloth, all of the same name, and a further kind and pot."""
    book = Book()
    for name in ["ash", "elm"]:
        book.add_kind(name)
        book.add_pot(name)
    book.add_cloth("ash", "ash")
    return book


class BookCase(unittest.TestCase):
    def unchanged(self, book, error, thing, call, *args, **more):
        """Checks that the book refuses the call and stays as it was."""
        before = contents(book)
        refused(self, error, thing, call, *args, **more)
        self.assertEqual(before, contents(book))


class EmptyBookTests(BookCase):
    def test_an_empty_book(self):
        self.assertEqual(([], [], [], [], [], [], 24), contents(Book()))
        self.assertEqual((0, [], []), (len(Book()), Book().amounts(), Book().where()))

    def test_the_bound_of_a_new_book(self):
        for bound in [0, 1, 23, 24]:
            self.assertEqual(bound, Book(bound=bound).bound)

    def test_what_is_no_bound_of_a_new_book(self):
        for bad in NO_BOUNDS:
            refused(self, BadNumber, bad, Book, bound=bad)

    def test_books_share_nothing(self):
        one, two = Book(), Book()
        one.add_kind("wool")
        self.assertEqual([], two.kinds())


class BoundTests(BookCase):
    def assign(self, book, number):
        book.bound = number

    def ways(self, book):
        """The two calls that change the bound of a book."""
        return [book.change_bound, lambda number: self.assign(book, number)]

    def test_bounds_from_the_number_of_dips_to_24(self):
        for dips in [0, 1, 3]:
            book = small_book()
            for _ in range(dips):
                book.dip("ash", "ash")
            for change in self.ways(book):
                for number in [24, dips, dips + 1, 23]:
                    self.assertIsNone(change(number))
                    self.assertEqual(number, book.bound)

    def test_what_is_no_bound(self):
        book = small_book()
        book.dip("ash", "ash")
        book.dip("ash", "ash")
        book.bound = 5
        for change in self.ways(book):
            for bad in [0, 1, *NO_BOUNDS]:
                self.unchanged(book, BadNumber, bad, change, bad)

    def test_the_bound_limits_the_dips(self):
        for bound in [0, 1, 5, 24]:
            book = small_book()
            book.bound = bound
            for number in range(bound):
                self.assertEqual(number, book.dip("ash", "elm"))
            self.unchanged(book, Full, bound, book.dip, "ash", "elm")

    def test_after_a_greater_bound_there_is_room_again(self):
        book = Book(bound=0)
        book.add_kind("wool")
        book.add_pot("weld")
        book.add_cloth("cap", "wool")
        self.unchanged(book, Full, 0, book.dip, "cap", "weld")
        book.change_bound(1)
        self.assertEqual(0, book.dip("cap", "weld"))
        self.unchanged(book, Full, 1, book.dip, "cap", "weld")


class NameTests(BookCase):
    def ways(self, book):
        """The three calls that add a name."""
        return [book.add_kind, book.add_pot, lambda name: book.add_cloth(name, "ash")]

    def test_names_of_1_and_of_12_letters(self):
        for name in ["a", "z", "abcdefghijkl", "mnopqrstuvwx", "yz"]:
            book = small_book()
            for add in self.ways(book):
                self.assertIsNone(add(name))
            self.assertEqual([name] * 3, [book.kinds()[-1][0], book.pots()[-1], book.cloths()[-1][0]])

    def test_what_is_no_name(self):
        book = small_book()
        for add in self.ways(book):
            for bad in NO_NAMES:
                self.unchanged(book, BadName, bad, add, bad)

    def test_names_that_are_known(self):
        book = small_book()
        book.add_cloth("elm", "elm")
        for add in self.ways(book):
            for name in ["ash", "elm"]:
                self.unchanged(book, Known, name, add, name)

    def test_a_kind_a_pot_and_a_cloth_may_share_a_name(self):
        for order in itertools.permutations(range(3)):
            book = Book()
            book.add_kind("ash")
            ways = self.ways(book)
            for way in order:
                ways[way]("oak")
            self.assertEqual((["ash", "oak"], ["oak"], ["oak"]),
                             ([name for name, hold in book.kinds()], book.pots(), [n for n, k in book.cloths()]))

    def test_eight_of_each(self):
        book = full_book()
        self.assertEqual([8, 8, 8], [len(book.kinds()), len(book.pots()), len(book.cloths())])
        self.unchanged(book, Full, 8, book.add_kind, "oak")
        self.unchanged(book, Full, 8, book.add_pot, "oak")
        self.unchanged(book, Full, 8, book.add_cloth, "oak", "a")


class KindTests(BookCase):
    def test_kinds_in_the_order_of_adding(self):
        book = Book()
        book.add_kind("wool", hold="loose")
        book.add_kind("silk", hold="fast")
        book.add_kind("flax", hold="unsure")
        book.add_kind("hemp")
        self.assertEqual([("wool", "loose"), ("silk", "fast"), ("flax", "unsure"), ("hemp", "unsure")], book.kinds())
        self.assertEqual(["loose", "fast", "unsure", "unsure"],
                         [book.hold_of(kind) for kind in ["wool", "silk", "flax", "hemp"]])

    def test_what_is_no_hold(self):
        book = small_book()
        for bad in ["", "Fast", "fast ", "tight", True, False, None, 0, ("fast",), ()]:
            self.unchanged(book, BadHold, bad, book.add_kind, "oak", hold=bad)

    def test_the_first_error_counts(self):
        book = full_book()
        self.unchanged(book, BadName, "A", book.add_kind, "A", hold="no")
        self.unchanged(book, Known, "a", book.add_kind, "a", hold="no")
        self.unchanged(book, BadHold, "no", book.add_kind, "oak", hold="no")
        self.unchanged(book, Full, 8, book.add_kind, "oak", hold="fast")
        self.unchanged(small_book(), BadName, None, book.add_kind, None, hold=None)
        small = small_book()
        self.unchanged(small, BadName, "", small.add_kind, "", hold="no")
        self.unchanged(small, Known, "ash", small.add_kind, "ash", hold="no")

    def test_unknown_kinds(self):
        book = small_book()
        book.add_cloth("oak", "ash")
        for bad in ["oak", "", "ASH", True, None, 0, (), ("ash",), ("ash", ("elm",))]:
            self.unchanged(book, Unknown, bad, book.hold_of, bad)
            self.unchanged(book, Unknown, bad, book.thirstier, bad, "ash")
            self.unchanged(book, Unknown, bad, book.thirstier, "ash", bad)
            self.unchanged(book, Unknown, bad, book.thirstier, bad, "nobody")


class ThirstTests(BookCase):
    def test_thirsts_in_the_order_of_adding(self):
        book = small_book()
        told = [("elm", "ash"), ("ash", "elm"), ("ash", "ash"), ("elm", "ash")]
        for more, less in told:
            self.assertIsNone(book.add_thirst(more, less))
        self.assertEqual(told, book.thirsts())

    def test_unknown_kinds(self):
        book = small_book()
        for bad in ["oak", "", True, None, ("ash",)]:
            self.unchanged(book, Unknown, bad, book.add_thirst, bad, "ash")
            self.unchanged(book, Unknown, bad, book.add_thirst, "ash", bad)
            self.unchanged(book, Unknown, bad, book.add_thirst, bad, "nobody")

    def test_the_first_error_counts(self):
        book = full_book()
        self.assertEqual(32, len(book.thirsts()))
        self.unchanged(book, Unknown, "oak", book.add_thirst, "oak", "yew")
        self.unchanged(book, Unknown, "yew", book.add_thirst, "a", "yew")
        self.unchanged(book, Full, 32, book.add_thirst, "a", "b")

    def test_the_same_kind_without_thirsts(self):
        book = small_book()
        self.assertEqual([True, True, False, False],
                         [book.thirstier(*two) for two in [("ash", "ash"), ("elm", "elm"),
                                                           ("ash", "elm"), ("elm", "ash")]])

    def test_a_chain_of_thirsts(self):
        book = Book()
        for name in "abcdefgh":
            book.add_kind(name)
        for more, less in ["cd", "ab", "bc", "de", "ab", "cc", "gf"]:
            book.add_thirst(more, less)
        found = [more + less for more in ROOMS for less in ROOMS if book.thirstier(more, less)]
        self.assertEqual(["aa", "ab", "ac", "ad", "ae", "bb", "bc", "bd", "be", "cc", "cd", "ce", "dd", "de",
                          "ee", "ff", "gf", "gg", "hh"], found)
        self.assertIs(True, book.thirstier("a", "e"))
        self.assertIs(False, book.thirstier("e", "a"))

    def test_rings_of_thirsts(self):
        book = Book()
        for name in "abcdefgh":
            book.add_kind(name)
        for more, less in ["ab", "bc", "ca", "cd", "ef", "fe", "gg"]:
            book.add_thirst(more, less)
        found = [more + less for more in ROOMS for less in ROOMS if book.thirstier(more, less)]
        self.assertEqual(["aa", "ab", "ac", "ad", "ba", "bb", "bc", "bd", "ca", "cb", "cc", "cd", "dd",
                          "ee", "ef", "fe", "ff", "gg", "hh"], found)


class PotAndClothTests(BookCase):
    def test_in_the_order_of_adding(self):
        book = small_book()
        book.add_cloth("zinnia", "elm")
        book.add_cloth("aster", "ash")
        for name in ["woad", "madder", "weld"]:
            book.add_pot(name)
        self.assertEqual([("ash", "ash"), ("zinnia", "elm"), ("aster", "ash")], book.cloths())
        self.assertEqual(["ash", "elm", "woad", "madder", "weld"], book.pots())
        self.assertEqual(["ash", "elm", "ash"], [book.kind_of(name) for name in ["ash", "zinnia", "aster"]])

    def test_a_cloth_of_an_unknown_kind(self):
        book = small_book()
        for bad in ["oak", "", "ASH", True, None, 0, ("ash",), ()]:
            self.unchanged(book, Unknown, bad, book.add_cloth, "oak", bad)

    def test_the_first_error_counts(self):
        book = full_book()
        self.unchanged(book, BadName, "A", book.add_cloth, "A", "oak")
        self.unchanged(book, Known, "a", book.add_cloth, "a", "oak")
        self.unchanged(book, Unknown, "oak", book.add_cloth, "ivy", "oak")
        self.unchanged(book, Full, 8, book.add_cloth, "ivy", "a")
        self.unchanged(book, BadName, "", book.add_pot, "")
        self.unchanged(book, Known, "h", book.add_pot, "h")
        self.unchanged(book, Full, 8, book.add_pot, "ivy")

    def test_unknown_cloths(self):
        book = small_book()
        for bad in ["elm", "", "ASH", True, None, 0, (), ("ash",)]:
            self.unchanged(book, Unknown, bad, book.kind_of, bad)


class DipTests(BookCase):
    def test_dips_are_numbered_from_0(self):
        book = small_book()
        book.add_cloth("elm", "elm")
        told = [("ash", "elm"), ("elm", "elm"), ("ash", "ash"), ("ash", "ash")]
        self.assertEqual([0, 1, 2, 3], [book.dip(cloth, pot) for cloth, pot in told])
        self.assertEqual(told, list(book))
        self.assertEqual(4, len(book))

    def test_unknown_names(self):
        book = small_book()
        for bad in ["oak", "", True, None, 0, ("ash",)]:
            self.unchanged(book, Unknown, bad, book.dip, bad, "ash")
            self.unchanged(book, Unknown, bad, book.dip, "ash", bad)
            self.unchanged(book, Unknown, bad, book.dip, bad, "nobody")
        self.unchanged(book, Unknown, "elm", book.dip, "elm", "elm")

    def test_the_first_error_counts(self):
        book = full_book()
        self.assertEqual(24, len(book))
        self.unchanged(book, Unknown, "oak", book.dip, "oak", "yew")
        self.unchanged(book, Unknown, "yew", book.dip, "a", "yew")
        self.unchanged(book, Full, 24, book.dip, "a", "a")

    def test_a_loop_over_the_book_that_adds_dips(self):
        book = small_book()
        book.dip("ash", "ash")
        book.dip("ash", "elm")
        for cloth, pot in book:
            book.dip(cloth, pot)
        self.assertEqual([("ash", "ash"), ("ash", "elm")] * 2, list(book))

    def test_previous_dips(self):
        book = example_book()
        book.dip("shawl", "madder")
        book.dip("shawl", "madder")
        self.assertEqual([None, None, 0, 1, 2, 4], [book.previous(number) for number in range(6)])

    def test_previous_of_what_is_no_dip(self):
        book = example_book()
        for bad in [-1, 4, 5, 10 ** 100, *NO_WHOLE]:
            self.unchanged(book, BadNumber, bad, book.previous, bad)
        refused(self, BadNumber, 0, Book().previous, 0)


class AmountTests(BookCase):
    def test_the_amounts_of_the_example(self):
        self.assertEqual([("take", 0), ("take", 1), ("take", 2), ("leave", 2), ("take", 3)], example_book().amounts())

    def amounts_of_two_dips(self, hold, pots):
        book = Book()
        book.add_kind("wool", hold=hold)
        book.add_cloth("cap", "wool")
        for pot in ["ash", "elm"]:
            book.add_pot(pot)
        for pot in pots:
            book.dip("cap", pot)
        return book.amounts()

    def test_a_leave_takes_another_pot_and_a_hold_that_is_not_fast(self):
        takes = [("take", 0), ("take", 1)]
        for hold, count in [("fast", 2), ("loose", 3), ("unsure", 3)]:
            self.assertEqual([*takes, ("leave", 1)][:count], self.amounts_of_two_dips(hold, ["ash", "elm"]))
            self.assertEqual(takes, self.amounts_of_two_dips(hold, ["ash", "ash"]))

    def test_only_the_previous_dip_counts(self):
        self.assertEqual([("take", 0), ("take", 1), ("leave", 1), ("take", 2), ("take", 3), ("leave", 3)],
                         self.amounts_of_two_dips("unsure", ["ash", "elm", "elm", "ash"]))

    def test_dips_of_other_cloths_do_not_count(self):
        book = small_book()
        book.add_cloth("elm", "ash")
        for cloth, pot in [("ash", "ash"), ("elm", "elm"), ("ash", "ash"), ("elm", "ash")]:
            book.dip(cloth, pot)
        self.assertEqual([("take", 0), ("take", 1), ("take", 2), ("take", 3), ("leave", 3)], book.amounts())

    def test_amounts_by_the_words_of_the_document(self):
        for seed in range(60):
            book = random_book(seed)
            expected = []
            last = {}
            for number, (cloth, pot) in enumerate(book):
                expected.append(("take", number))
                if last.get(cloth, pot) != pot and book.hold_of(book.kind_of(cloth)) != "fast":
                    expected.append(("leave", number))
                last[cloth] = pot
            self.assertEqual(expected, book.amounts())


class FactTests(BookCase):
    def test_facts_in_the_order_of_adding(self):
        book = example_book()
        self.assertIsNone(book.tell(("take", 3), ("leave", 2)))
        self.assertIsNone(book.tell_some(("take", 1)))
        book.tell(("take", 0), ("take", 0))
        book.tell_some(("take", 1))
        book.tell(("take", 3), ("leave", 2))
        self.assertEqual([("tell", ("take", 3), ("leave", 2)), ("some", ("take", 1)),
                          ("tell", ("take", 0), ("take", 0)), ("some", ("take", 1)),
                          ("tell", ("take", 3), ("leave", 2))], book.facts())

    def test_what_is_no_amount_of_the_book(self):
        book = example_book()
        good = ("take", 1)
        absent = [("leave", 0), ("leave", 1), ("leave", 3), ("take", 4), ("leave", 4), ("take", 10 ** 100)]
        for bad in [*absent, *NO_AMOUNTS]:
            self.unchanged(book, BadAmount, bad, book.tell, bad, good)
            self.unchanged(book, BadAmount, bad, book.tell, good, bad)
            self.unchanged(book, BadAmount, bad, book.tell, bad, None)
            self.unchanged(book, BadAmount, bad, book.tell_some, bad)

    def test_32_facts_of_both_sorts_together(self):
        book = example_book()
        for _ in range(16):
            book.tell_some(("take", 0))
            book.tell(("take", 0), ("take", 1))
        self.assertEqual(32, len(book.facts()))
        self.unchanged(book, Full, 32, book.tell, ("take", 0), ("take", 1))
        self.unchanged(book, Full, 32, book.tell_some, ("take", 0))
        self.unchanged(book, BadAmount, ("leave", 0), book.tell, ("leave", 0), ("leave", 1))
        self.unchanged(book, BadAmount, ("leave", 1), book.tell, ("take", 0), ("leave", 1))
        self.unchanged(book, BadAmount, None, book.tell_some, None)


class WhereTests(BookCase):
    def setUp(self):
        self.book = example_book()
        self.book.add_cloth("scarf", "wool")
        self.book.dip("scarf", "weld")
        self.book.dip("shawl", "weld")

    def test_without_keywords(self):
        self.assertEqual([0, 1, 2, 3, 4, 5], self.book.where())

    def test_one_keyword(self):
        where = self.book.where
        self.assertEqual([[0, 2, 5], [1, 3], [4]], [where(cloth=name) for name in ["shawl", "ribbon", "scarf"]])
        self.assertEqual([[0, 1], [2, 3, 4, 5]], [where(pot=name) for name in ["madder", "weld"]])
        self.assertEqual([[0, 2, 4, 5], [1, 3]], [where(kind=name) for name in ["wool", "silk"]])

    def test_two_and_three_keywords(self):
        where = self.book.where
        self.assertEqual([2, 5], where(cloth="shawl", pot="weld"))
        self.assertEqual([2, 5], where(pot="weld", cloth="shawl"))
        self.assertEqual([2, 4, 5], where(kind="wool", pot="weld"))
        self.assertEqual([0, 2, 5], where(kind="wool", cloth="shawl"))
        self.assertEqual([], where(kind="silk", cloth="shawl"))
        self.assertEqual([0], where(kind="wool", cloth="shawl", pot="madder"))
        self.assertEqual([], where(kind="wool", cloth="scarf", pot="madder"))

    def test_strings_that_no_dip_has(self):
        self.book.add_pot("empty")
        for word in ["cloth", "pot", "kind"]:
            for name in ["", "nobody", "empty", "No Name"]:
                self.assertEqual([], self.book.where(**{word: name}))
        self.assertEqual([], self.book.where(cloth="shawl", pot="empty"))

    def test_unknown_words(self):
        self.unchanged(self.book, Unknown, "hold", self.book.where, hold="fast")
        self.unchanged(self.book, Unknown, "hold", self.book.where, cloth="shawl", hold="fast", name="x")
        self.unchanged(self.book, Unknown, "name", self.book.where, name="x", cloth="nobody", hold="fast")
        refused(self, Unknown, "cloths", Book().where, cloths="shawl")


class SharingTests(BookCase):
    def test_returned_lists_are_new(self):
        book = full_book()
        before = contents(book)
        for ask in [book.kinds, book.thirsts, book.pots, book.cloths, book.facts, book.amounts, book.where]:
            answer = ask()
            again = ask()
            answer.clear()
            self.assertEqual(again, ask())
            self.assertNotEqual([], again)
        self.assertEqual(before, contents(book))

    def test_a_duplicate_is_equal(self):
        for seed in range(20):
            book = random_book(seed)
            book.bound = 20
            self.assertEqual(contents(book), contents(book.duplicate()))
        self.assertEqual(0, Book(bound=0).duplicate().bound)

    def change_all(self, book, name):
        """Adds one thing of every sort."""
        book.add_kind(name, hold="loose")
        book.add_thirst(name, "ash")
        book.add_pot(name)
        book.add_cloth(name, name)
        book.dip("ash", name)
        book.tell(("take", 0), ("take", 0))
        book.tell_some(("take", 0))
        book.bound = book.bound - 1

    def test_a_duplicate_and_its_original_changed_by_turns(self):
        book, alone = small_book(), small_book()
        other = book.duplicate()
        for turn, name in enumerate(["oak", "yew", "fir"]):
            self.change_all(book, name)
            before = contents(other)
            self.change_all(alone, name)
            self.assertEqual(contents(alone), contents(book))
            self.assertEqual(before, contents(other))
            self.change_all(other, "x" * (turn + 1))
            self.assertEqual(contents(alone), contents(book))
        self.assertEqual(["ash", "elm", "x", "xx", "xxx"], other.pots())
        self.assertEqual([("ash", "x"), ("ash", "xx"), ("ash", "xxx")], list(other))
        self.assertEqual(21, other.bound)


class FullBookTests(BookCase):
    def test_all_that_adds(self):
        book = full_book()
        self.assertEqual([8, 32, 8, 8, 24, 32, 24],
                         [len(part) if isinstance(part, list) else part for part in contents(book)])

    def test_holds_are_kept_for_each_kind(self):
        book = Book()
        for name, hold in zip("abcdef", HOLDS * 2):
            book.add_kind(name, hold=hold)
        self.assertEqual(list(zip("abcdef", HOLDS * 2)), book.kinds())


if __name__ == "__main__":
    unittest.main()
