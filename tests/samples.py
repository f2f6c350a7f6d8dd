"""Books, values and checks that several test files share."""

import random

from tiredpots.book import Book
from tiredpots.forms import Form
from tiredpots.order import Order, faults, pairs, told_there
from tiredpots.paying import Open, Sure

# Values that stand in the place of a whole number, and are none.
NO_WHOLE = [True, False, None, "", "3", (), (3,), (3, (3,))]

# Values that stand in the place of an amount, and are none, whatever the book.
NO_AMOUNTS = [
    True, False, None, 0, 7, "", "take", (), ("take",), ("take", 0, 0), ("take", -1), ("leave", -1),
    ("take", True), ("take", False), ("leave", True), ("take", None), ("take", "0"), ("take", ("take", 0)),
    ("Take", 0), ("give", 0), (0, "take"), (0, 0), (None, 0), (("take", 0), 0), (("take", 0),),
    (("take",), 0), (("take", 0), 1), ("take", (0,)), ("take", ()), ((), 0), ("", 0),
]

# Values that stand in the place of a name, and are none.
NO_NAMES = [
    "", "a" * 13, "A", "Ab", "aB", "a b", " a", "a ", "a\n", "a1", "1", "a-b", "a_b", "a~", "a`", "a{",
    True, False, None, 0, 5, -1, (), ("a",), ("a", ("b",)),
]

ROOMS = "abcdefgh"


def refused(case, error, thing, call, *args, **more):
    """Checks that the call raises this very error with this very thing."""
    with case.assertRaises(error) as caught:
        call(*args, **more)
    case.assertIs(error, caught.exception.__class__)
    # Compared as texts too, since True == 1.
    case.assertEqual((thing, repr(thing)), (caught.exception.thing, repr(caught.exception.thing)))


def contents(book):
    """All that a book tells of itself."""
    return (book.kinds(), book.thirsts(), book.pots(), book.cloths(), list(book), book.facts(), book.bound)


def example_book():
    """The book of the example of the document."""
    book = Book()
    book.add_kind("wool", hold="loose")
    book.add_kind("silk", hold="fast")
    book.add_thirst("wool", "silk")
    book.add_pot("madder")
    book.add_pot("weld")
    book.add_cloth("shawl", "wool")
    book.add_cloth("ribbon", "silk")
    for cloth, pot in [("shawl", "madder"), ("ribbon", "madder"), ("shawl", "weld"), ("ribbon", "weld")]:
        book.dip(cloth, pot)
    return book


def full_book():
    """A book with as many things of every sort as a book can have."""
    book = Book()
    for room in ROOMS:
        book.add_kind(room, hold="loose")
        book.add_pot(room)
        book.add_cloth(room, room)
    for number in range(32):
        book.add_thirst(ROOMS[number // 8], ROOMS[number % 8])
    for number in range(24):
        book.dip(ROOMS[number % 8], ROOMS[number // 8])
    for number in range(32):
        book.tell_some(("take", number % 24))
    return book


def random_book(seed, most=14):
    """A book of at most so many dips that depends on the seed alone."""
    chance = random.Random(seed)
    book = Book()
    kinds = ["plum", "quince", "rose", "sage"][:chance.randint(1, 4)]
    cloths = ["cape", "dress", "hat", "sash", "veil"][:chance.randint(1, 5)]
    pots = ["madder", "weld", "woad"][:chance.randint(1, 3)]
    for kind in kinds:
        book.add_kind(kind, hold=chance.choice(["fast", "loose", "unsure"]))
    for _ in range(chance.randint(0, 5)):
        book.add_thirst(chance.choice(kinds), chance.choice(kinds))
    for pot in pots:
        book.add_pot(pot)
    for cloth in cloths:
        book.add_cloth(cloth, chance.choice(kinds))
    for _ in range(chance.randint(0, most)):
        book.dip(chance.choice(cloths), chance.choice(pots))
    amounts = book.amounts()
    for _ in range(chance.randint(0, 6) if amounts else 0):
        if chance.random() < 0.3:
            book.tell_some(chance.choice(amounts))
        else:
            book.tell(chance.choice(amounts), chance.choice(amounts))
    return book


def random_form(chance, amounts, size=5):
    """A form with some of these amounts."""
    return Form([(amount, chance.randint(-size, size)) for amount in amounts if chance.random() < 0.6])


def random_sure_form(chance, book, size=5):
    """A form that is sure, made of payments turned round and of numbers above 0."""
    order, amounts = Order(book), book.amounts()
    form = Form([(amount, chance.randint(0, size)) for amount in amounts if chance.random() < 0.2])
    for more in amounts:
        for less in amounts:
            if (more, less) in order and chance.random() < 0.3:
                form += chance.randint(0, size) * Form([(more, 1), (less, -1)])
    return form


def closed_sets(book):
    """All sets of amounts that are closed upward. The book must be small."""
    comparisons = pairs(book)
    found = {frozenset()}
    for amount in book.amounts():
        least, size = {amount}, 0
        while size < len(least):
            size = len(least)
            least |= {more for more, less in comparisons if less in least}
        found |= {frozenset(least | other) for other in found}
    return found


def value_in(form, some):
    """The value of the form in the world with 1 for these amounts and 0 for all others."""
    return sum(number for amount, number in form if amount in some)


def sure_by_sets(book, form, strict=False, sets=None):
    """Whether a form is sure, or strictly sure: each world is a sum of sets that are closed upward."""
    sets = closed_sets(book) if sets is None else sets
    there = set(told_there(book))
    return (all(value_in(form, some) >= 0 for some in sets)
            and not (strict and any(value_in(form, some) <= 0 for some in sets if there <= some)))


def kept_after(case, book, form, payments):
    """Checks the payments by the words of point 13, and returns what each amount keeps."""
    order = Order(book)
    case.assertIs(list, type(payments))
    kept = {amount: form[amount] for amount in book.amounts()}
    for payment in payments:
        case.assertIs(tuple, type(payment))
        more, less, number = payment
        case.assertNotEqual(more, less)
        case.assertIn((more, less), order)
        case.assertIs(int, type(number))
        case.assertGreaterEqual(number, 1)
        kept[more] -= number
        kept[less] += number
    case.assertTrue(all(number >= 0 for number in kept.values()), (form, payments))
    return kept


def check_answer(case, book, form, answer, strict=False):
    """Checks an answer by the words of the document, and returns whether it is yes."""
    case.assertEqual(form, answer.form)
    case.assertIsNot(form, answer.form)
    if type(answer) is Sure:
        case.assertIs(True, answer.holds())
        kept = kept_after(case, book, form, answer.payments)
        if strict:
            case.assertIn(answer.spare, Order(book).there())
            case.assertGreaterEqual(kept[answer.spare], 1)
        else:
            case.assertIsNone(answer.spare)
        return True
    case.assertIs(Open, type(answer))
    case.assertIs(False, answer.holds())
    case.assertEqual(book.amounts(), sorted(answer.world, key=book.amounts().index))
    case.assertTrue(all(type(number) is int for number in answer.world.values()))
    case.assertEqual([], faults(book, answer.world))
    case.assertLessEqual(form(answer.world), 0 if strict else -1)
    return False
