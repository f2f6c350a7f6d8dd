"""Books, values and checks that several test files share."""

import random

from tiredpots.book import Book

# Values that stand in the place of a whole number, and are none.
NO_WHOLE = [True, False, None, "", "3", (), (3,), (3, (3,))]

# Values that stand in the place of an amount, and are none, whatever the book.
NO_AMOUNTS = [
    True, False, None, 0, 7, "", "take", (), ("take",), ("take", 0, 0), ("take", -1), ("leave", -1),
    ("take", True), ("take", False), ("leave", True), ("take", None), ("take", "0"), ("take", ("take", 0)),
    ("Take", 0), ("give", 0), (0, "take"), (0, 0), (None, 0), (("take", 0), 0), (("take", 0),),
    (("take",), 0), (("take", 0), 1), ("take", (0,)), ("take", ()), ((), 0), ("", 0),
]

# Values that stand in the place of a name, and are none.
NO_NAMES = [
    "", "a" * 13, "A", "Ab", "aB", "a b", " a", "a ", "a\n", "a1", "1", "a-b", "a_b", "a~", "a`", "a{",
    True, False, None, 0, 5, -1, (), ("a",), ("a", ("b",)),
]

ROOMS = "abcdefgh"


def refused(case, error, thing, call, *args, **more):
    """Checks that the call raises this very error with this very thing."""
    with case.assertRaises(error) as caught:
        call(*args, **more)
    case.assertIs(error, caught.exception.__class__)
    # Compared as texts too, since True == 1.
    case.assertEqual((thing, repr(thing)), (caught.exception.thing, repr(caught.exception.thing)))


def contents(book):
    """All that a book tells of itself."""
    return (book.kinds(), book.thirsts(), book.pots(), book.cloths(), list(book), book.facts(), book.bound)


def example_book():
    """The book of the example of the document."""
    book = Book()
    book.add_kind("wool", hold="loose")
    book.add_kind("silk", hold="fast")
    book.add_thirst("wool", "silk")
    book.add_pot("madder")
    book.add_pot("weld")
    book.add_cloth("shawl", "wool")
    book.add_cloth("ribbon", "silk")
    for cloth, pot in [("shawl", "madder"), ("ribbon", "madder"), ("shawl", "weld"), ("ribbon", "weld")]:
        book.dip(cloth, pot)
    return book


def full_book():
    """A book with as many things of every sort as a book can have."""
    book = Book()
    for room in ROOMS:
        book.add_kind(room, hold="loose")
        book.add_pot(room)
        book.add_cloth(room, room)
    for number in range(32):
        book.add_thirst(ROOMS[number // 8], ROOMS[number % 8])
    for number in range(24):
        book.dip(ROOMS[number % 8], ROOMS[number // 8])
    for number in range(32):
        book.tell_some(("take", number % 24))
    return book


def random_book(seed):
    """A book that depends on the seed alone."""
    chance = random.Random(seed)
    book = Book()
    kinds = ["plum", "quince", "rose", "sage"][:chance.randint(1, 4)]
    cloths = ["cape", "dress", "hat", "sash", "veil"][:chance.randint(1, 5)]
    pots = ["madder", "weld", "woad"][:chance.randint(1, 3)]
    for kind in kinds:
        book.add_kind(kind, hold=chance.choice(["fast", "loose", "unsure"]))
    for _ in range(chance.randint(0, 5)):
        book.add_thirst(chance.choice(kinds), chance.choice(kinds))
    for pot in pots:
        book.add_pot(pot)
    for cloth in cloths:
        book.add_cloth(cloth, chance.choice(kinds))
    for _ in range(chance.randint(0, 14)):
        book.dip(chance.choice(cloths), chance.choice(pots))
    amounts = book.amounts()
    for _ in range(chance.randint(0, 6) if amounts else 0):
        if chance.random() < 0.3:
            book.tell_some(chance.choice(amounts))
        else:
            book.tell(chance.choice(amounts), chance.choice(amounts))
    return book
