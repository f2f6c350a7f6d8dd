import random
import unittest

from samples import contents, example_book, full_book, random_book, refused
from tiredpots.book import Book
from tiredpots.errors import BadAmount, BadHold, BadLine, BadName, Full, Known, Unknown
from tiredpots.notation import read_book, write_book

EXAMPLE = """kind wool loose
kind silk fast
thirst wool silk
pot madder
pot weld
cloth shawl wool
cloth ribbon silk
dip shawl madder
dip ribbon madder
dip shawl weld
dip ribbon weld
tell take 0 leave 2
some take 3
"""

# Lines that the book of the example refuses, with the error of the book.
REFUSED = [
    ("kind Wool loose", BadName, "Wool"), ("kind wool2 loose", BadName, "wool2"), ("kind wool loose", Known, "wool"),
    ("kind " + "a" * 13 + " loose", BadName, "a" * 13), ("kind wool lax", Known, "wool"),
    ("kind flax lax", BadHold, "lax"), ("kind flax Loose", BadHold, "Loose"), ("kind flax wool", BadHold, "wool"),
    ("thirst wool flax", Unknown, "flax"), ("thirst flax jute", Unknown, "flax"), ("thirst WOOL silk", Unknown, "WOOL"),
    ("pot weld", Known, "weld"), ("pot ~", BadName, "~"), ("pot madder-weld", BadName, "madder-weld"),
    ("cloth shawl wool", Known, "shawl"), ("cloth hat flax", Unknown, "flax"), ("cloth h4t flax", BadName, "h4t"),
    ("dip hat weld", Unknown, "hat"), ("dip shawl ash", Unknown, "ash"), ("dip madder shawl", Unknown, "madder"),
    ("tell take 4 take 5", BadAmount, ("take", 4)), ("tell take 0 leave 3", BadAmount, ("leave", 3)),
    ("tell leave 0 take 99", BadAmount, ("leave", 0)), ("some take 99", BadAmount, ("take", 99)),
    ("some leave 10", BadAmount, ("leave", 10)),
]

# Lines that have none of the forms.
SHAPELESS = [
    "", " ", "  ", "kind", "kind wool", "kind flax loose fast", "kinds flax loose", "Kind flax loose",
    "KIND flax loose", "flax", "loose", "thirst", "thirst wool", "thirst wool silk silk", "pot", "pot ash elm",
    "pots ash", "cloth", "cloth hat", "cloth hat wool silk", "dip", "dip shawl", "dip shawl weld weld", "shawl weld",
    "dips shawl weld",
    "tell", "tell take 0", "tell take 0 take", "tell take 0 take 1 take 2", "tell 0 1", "tell take take 0 1",
    "some", "some take", "some 0", "some 0 take", "some take 0 take 1", "some take 0 0", "some give 0", "some Take 0",
    "some take 00", "some take 01", "some leave 02", "some take 000", "some take 100", "some take 999", "some take -1",
    "some take +1", "some take 1.", "some take 1_0", "some take 0x1", "some take a", "some take ~", "some take 1e1",
    "tell take 00 take 1", "tell take 0 take 01", "tell take 0 give 1", "tell give 0 take 1", "tell take 100 take 0",
    "tell take 0 take 100", "tell take -0 take 1", "tell take 0 take +1", "tell take 0 leave x", "tell take0 take1",
    "# kind flax loose", "kind,flax,loose", "kind;flax;loose", "fact take 0", "bound 24", "bound",
]


def with_blanks(line):
    """The line with a blank too many at each place, and with one too few."""
    places = [place for place, letter in enumerate(line) if letter == " "]
    return ([" " + line, line + " ", line + "  "] + [line[:place] + " " + line[place:] for place in places]
            + [line[:place] + line[place + 1:] for place in places])


class WriteTests(unittest.TestCase):
    def test_the_example(self):
        book = example_book()
        book.tell(("take", 0), ("leave", 2))
        book.tell_some(("take", 3))
        self.assertEqual(EXAMPLE, write_book(book))

    def test_an_empty_book(self):
        self.assertEqual("", write_book(Book()))
        self.assertEqual("", write_book(Book(bound=3)))

    def test_the_order_of_adding_within_each_sort(self):
        book = Book(bound=13)
        book.add_pot("weld")
        book.add_kind("silk")
        book.add_cloth("ribbon", "silk")
        book.dip("ribbon", "weld")
        book.tell_some(("take", 0))
        book.add_pot("ash")
        book.add_thirst("silk", "silk")
        book.add_kind("abaca", hold="fast")
        book.add_cloth("cap", "abaca")
        book.add_thirst("silk", "abaca")
        book.add_thirst("silk", "silk")
        for _ in range(10):
            book.dip("ribbon", "ash")
        book.tell(("leave", 1), ("take", 10))
        book.tell_some(("take", 0))
        book.dip("cap", "weld")
        self.assertEqual(
            "kind silk unsure\nkind abaca fast\nthirst silk silk\nthirst silk abaca\nthirst silk silk\n"
            "pot weld\npot ash\ncloth ribbon silk\ncloth cap abaca\ndip ribbon weld\n" + "dip ribbon ash\n" * 10
            + "dip cap weld\nsome take 0\ntell leave 1 take 10\nsome take 0\n", write_book(book))

    def test_the_book_stays(self):
        book = example_book()
        before = contents(book)
        write_book(book)
        self.assertEqual(before, contents(book))

    def test_written_again_behind_changes(self):
        book = example_book()
        text = write_book(book)
        book.dip("shawl", "weld")
        self.assertEqual(text + "dip shawl weld\n", write_book(book))
        book.tell(("take", 4), ("take", 4))
        self.assertEqual(text + "dip shawl weld\ntell take 4 take 4\n", write_book(book))


class ReadTests(unittest.TestCase):
    def check_bad(self, text, number, cause=None, thing=None):
        """Checks that this very line is bad, and the error of the book, if there is one."""
        with self.assertRaises(BadLine) as caught:
            read_book(text)
        self.assertEqual((BadLine, number), (type(caught.exception), caught.exception.thing), text)
        refusal = caught.exception.__cause__
        if cause is None:
            self.assertIsNone(refusal, text)
        else:
            self.assertIs(cause, type(refusal), text)
            self.assertEqual((thing, repr(thing)), (refusal.thing, repr(refusal.thing)))

    def test_the_example(self):
        book = read_book(EXAMPLE)
        expected = example_book()
        expected.tell(("take", 0), ("leave", 2))
        expected.tell_some(("take", 3))
        self.assertEqual(contents(expected), contents(book))
        self.assertIs(Book, type(book))

    def test_an_empty_text(self):
        self.assertEqual(contents(Book()), contents(read_book("")))

    def test_books_that_are_written_and_read(self):
        for seed, book in enumerate([Book(), example_book(), full_book(), *map(random_book, range(100))]):
            book.change_bound(len(book) + seed % (25 - len(book)))
            before = contents(book)
            text = write_book(book)
            other = read_book(text)
            self.assertEqual(before[:-1] + (24,), contents(other))
            self.assertEqual(text, write_book(other))
            self.assertEqual(before, contents(book))

    def test_lines_in_another_order(self):
        for seed in range(60):
            chance, book = random.Random(seed), random_book(seed)
            sorts = [[], [], []]
            for line in write_book(book).splitlines():
                sorts[{"kind": 0, "pot": 1}.get(line.split()[0], 2)].append(line)
            # Each of these sorts needs only what stands ahead of it in the same sort, or kinds and pots.
            lines = sorts[0] + sorts[2]
            for pot in sorts[1]:
                first = [place for place, line in enumerate(lines) if line.split()[-1] == pot.split()[1]]
                lines.insert(chance.randint(0, min(first, default=len(lines))), pot)
            again = read_book("".join(line + "\n" for line in lines))
            self.assertEqual([set(part) for part in contents(book)[:4]], [set(part) for part in contents(again)[:4]])
            self.assertEqual(contents(book)[4:], contents(again)[4:])

    def test_each_line_is_carried_out_on_what_stands_before_it(self):
        text = ("pot b\nkind z fast\ncloth c z\npot a\nthirst z z\ndip c a\nsome take 0\nkind y unsure\n"
                "dip c b\ntell take 0 take 1\nthirst y z\ncloth a y\n")
        book = read_book(text)
        self.assertEqual(["b", "a"], book.pots())
        self.assertEqual([("c", "a"), ("c", "b")], list(book))
        self.assertEqual([("some", ("take", 0)), ("tell", ("take", 0), ("take", 1))], book.facts())
        self.assertEqual([("z", "z"), ("y", "z")], book.thirsts())
        self.check_bad("some take 0\n" + text, 1, BadAmount, ("take", 0))
        self.check_bad("kind z fast\ncloth c z\npot a\ndip c a\nsome take 1\ndip c a\n", 5, BadAmount, ("take", 1))
        self.check_bad("thirst z z\nkind z fast\n", 1, Unknown, "z")
        self.check_bad("kind z fast\ncloth c z\ndip c a\npot a\n", 3, Unknown, "a")

    def test_lines_that_the_book_refuses(self):
        count = EXAMPLE.count("\n")
        for line, cause, thing in REFUSED:
            self.check_bad(EXAMPLE + line + "\n", count + 1, cause, thing)
            self.check_bad(EXAMPLE + line + "\n" + EXAMPLE, count + 1, cause, thing)
            self.check_bad(EXAMPLE + line + "\n\n", count + 1, cause, thing)

    def test_a_first_line_that_the_book_refuses(self):
        for line, cause, thing in [("kind A fast", BadName, "A"), ("thirst a b", Unknown, "a"), ("pot 1", BadName, "1"),
                                   ("cloth a b", Unknown, "b"), ("dip a b", Unknown, "a"),
                                   ("some take 0", BadAmount, ("take", 0)),
                                   ("tell leave 23 take 0", BadAmount, ("leave", 23))]:
            self.check_bad(line + "\n", 1, cause, thing)
            self.check_bad(line + "\n" + EXAMPLE, 1, cause, thing)

    def test_lines_without_a_form_at_every_place(self):
        lines = EXAMPLE.splitlines(keepends=True)
        for line in SHAPELESS:
            self.check_bad(line + "\n", 1)
            for place in [0, 1, 6, len(lines) - 1, len(lines)]:
                self.check_bad("".join([*lines[:place], line + "\n", *lines[place:]]), place + 1)

    def test_blanks(self):
        lines = EXAMPLE.splitlines()
        for place, line in enumerate(lines):
            for bad in with_blanks(line):
                self.check_bad("".join(some + "\n" for some in [*lines[:place], bad, *lines[place + 1:]]), place + 1)

    def test_a_blank_too_many_is_bad_although_the_words_are_as_many_as_they_should_be(self):
        for bad in ["kind  loose", " kind wool", "pot ", " pot", "dip  weld", "thirst wool ", "some take ", "some  0",
                    "tell take 0  1", "tell take  leave 2"]:
            self.check_bad(EXAMPLE + bad + "\n", 14)

    def test_a_missing_last_newline(self):
        lines = EXAMPLE.splitlines(keepends=True)
        for place in range(1, len(lines) + 1):
            self.check_bad("".join(lines[:place])[:-1], place)
        for line in [*SHAPELESS[1:], *[line for line, _, _ in REFUSED]]:
            self.check_bad(line, 1)
            self.check_bad(EXAMPLE + line, 14)
        self.check_bad("kind A fast\npot ash", 1, BadName, "A")

    def test_the_first_of_several_bad_lines(self):
        self.check_bad("pot ash\npot elm\n\npot 5\npot", 3)
        self.check_bad("pot ash\npot 5\n\npot", 2, BadName, "5")
        self.check_bad("\n\n", 1)
        self.check_bad("pot ash\n\npot elm\n", 2)
        self.check_bad("pot ash\n\n", 2)

    def test_lines_told_twice(self):
        for line in ["thirst wool silk", "dip ribbon weld", "tell take 0 leave 2", "some take 3"]:
            book = read_book(EXAMPLE + (line + "\n") * 2)
            self.assertEqual(2 + EXAMPLE.count(line), write_book(book).count(line))
        for line, name in [("kind silk fast", "silk"), ("pot weld", "weld"), ("cloth shawl wool", "shawl")]:
            self.check_bad(EXAMPLE + line + "\n", 14, Known, name)

    def test_full_books(self):
        text = write_book(full_book())
        many = text.count("\n")
        self.assertEqual(24, len(read_book(text)))
        for line, most in [("kind i fast", 8), ("thirst a a", 32), ("pot i", 8), ("cloth i a", 8), ("dip a a", 24),
                           ("tell take 0 take 0", 32), ("some leave 23", 32)]:
            self.check_bad(text + line + "\n", many + 1, Full, most)

    def test_all_numbers_of_dips(self):
        book = full_book()
        start = "".join(line + "\n" for line in write_book(book).splitlines() if not line.startswith("some"))
        for number in range(24):
            again = read_book(start + f"some take {number}\n")
            self.assertEqual([("some", ("take", number))], again.facts())
        for number in range(24, 100):
            self.check_bad(start + f"some take {number}\n", start.count("\n") + 1, BadAmount, ("take", number))

    def test_names_may_be_the_words_of_lines(self):
        text = ("kind kind fast\nkind take loose\nthirst take kind\npot pot\ncloth some take\ndip some pot\n"
                "some take 0\n")
        self.assertEqual(text, write_book(read_book(text)))

    def test_a_book_that_is_read_is_a_book_of_its_own(self):
        first, second = read_book(EXAMPLE), read_book(EXAMPLE)
        before = contents(second)
        first.dip("shawl", "weld")
        first.add_kind("flax")
        first.add_pot("ash")
        first.add_thirst("silk", "wool")
        first.tell_some(("take", 4))
        first.change_bound(5)
        self.assertEqual(before, contents(second))
        refused(self, Full, 5, first.dip, "shawl", "weld")
        self.assertEqual(4, second.dip("shawl", "weld"))
        self.assertEqual(24, second.bound)


if __name__ == "__main__":
    unittest.main()
