import itertools
import unittest

from samples import NO_AMOUNTS, contents, example_book, full_book, random_book, refused
from tiredpots.book import Book
from tiredpots.errors import BadAmount
from tiredpots.order import Order, faults, pairs, told_there

T0, T1, T2, L2, T3 = ("take", 0), ("take", 1), ("take", 2), ("leave", 2), ("take", 3)
SEEDS = range(60)


def expected_pairs(book):
    """The comparisons of point 7, by its words."""
    dips = list(book)
    found = []
    for late, (cloth, pot) in enumerate(dips):
        for early, (other, where) in enumerate(dips[:late]):
            if where == pot and book.thirstier(book.kind_of(other), book.kind_of(cloth)):
                found.append((("take", early), ("take", late)))
        if ("leave", late) in book.amounts():
            found.append((("take", book.previous(late)), ("leave", late)))
    return found + [fact[1:] for fact in book.facts() if fact[0] == "tell"]


def closure(book):
    """All (more, less) of point 10, by adding until nothing is new."""
    found = {(amount, amount) for amount in book.amounts()} | set(pairs(book))
    while True:
        longer = {(one, three) for one, two in found for also, three in found if two == also} | found
        if longer == found:
            return found
        found = longer


def two_kinds():
    """Two kinds, two cloths of each, and two pots, without dips."""
    book = Book()
    book.add_kind("wool", hold="loose")
    book.add_kind("silk")
    for name, kind in [("cap", "wool"), ("hat", "silk"), ("rag", "wool"), ("bow", "silk")]:
        book.add_cloth(name, kind)
    for pot in ["ash", "elm"]:
        book.add_pot(pot)
    return book


def ring_book():
    """Five dips of a cloth in one pot, with facts that make a ring of the first three."""
    book = two_kinds()
    for cloth in ["cap", "hat", "cap", "hat", "hat"]:
        book.dip(cloth, "ash")
    for more, less in [(T1, T0), (T0, T1), (T2, T2), (T2, T0)]:
        book.tell(more, less)
    return book


class PairsTests(unittest.TestCase):
    def test_the_example(self):
        self.assertEqual([(T0, T1), (T0, L2), (T2, T3)], pairs(example_book()))

    def test_no_dips(self):
        self.assertEqual([], pairs(Book()))
        self.assertEqual([], pairs(two_kinds()))

    def test_falls_before_the_bleed_of_the_same_dip(self):
        book = two_kinds()
        for cloth, pot in [("rag", "elm"), ("cap", "elm"), ("cap", "ash"), ("cap", "elm"), ("rag", "ash")]:
            book.dip(cloth, pot)
        self.assertEqual([(T0, T1), (T1, L2), (T0, T3), (T1, T3), (T2, ("leave", 3)),
                          (T2, ("take", 4)), (T0, ("leave", 4))], pairs(book))

    def test_a_fall_takes_thirst_in_the_right_direction(self):
        book = two_kinds()
        book.dip("hat", "ash")
        book.dip("cap", "ash")
        book.dip("bow", "ash")
        self.assertEqual([(T0, T2)], pairs(book))
        book.add_thirst("wool", "silk")
        self.assertEqual([(T0, T2), (T1, T2)], pairs(book))
        book.add_thirst("silk", "wool")
        self.assertEqual([(T0, T1), (T0, T2), (T1, T2)], pairs(book))

    def test_a_fall_takes_the_same_pot(self):
        book = two_kinds()
        book.dip("cap", "ash")
        book.dip("rag", "elm")
        self.assertEqual([], pairs(book))

    def test_dips_of_the_same_cloth_fall_too(self):
        book = two_kinds()
        book.dip("hat", "ash")
        book.dip("hat", "ash")
        self.assertEqual([(T0, T1)], pairs(book))

    def test_told_comparisons_stand_last_also_when_they_stand_there_already(self):
        book = example_book()
        book.tell(T0, T1)
        book.tell_some(T2)
        book.tell(T3, T3)
        book.tell(T0, T1)
        falls = [(T0, T1), (T0, L2), (T2, T3)]
        told = [(T0, T1), (T3, T3), (T0, T1)]
        self.assertEqual(falls + told, pairs(book))
        book.dip("ribbon", "weld")
        self.assertEqual(falls + [(T2, ("take", 4)), (T3, ("take", 4))] + told, pairs(book))

    def test_many_books(self):
        for seed in SEEDS:
            book = random_book(seed)
            self.assertEqual(expected_pairs(book), pairs(book))

    def test_behind_further_things(self):
        for seed in SEEDS:
            book = random_book(seed)
            pairs(book)
            book.add_kind("late", hold="loose")
            book.add_cloth("late", "late")
            book.add_thirst("late", "plum")
            book.add_thirst("plum", "late")
            for pot in book.pots()[:2] * 2:
                book.dip("late", pot)
                book.dip("cape", pot)
            book.tell(T1, T0)
            self.assertEqual(expected_pairs(book), pairs(book))

    def test_the_book_and_the_next_list_stay(self):
        book = example_book()
        before = contents(book)
        pairs(book).clear()
        told_there(book).clear()
        self.assertEqual([(T0, T1), (T0, L2), (T2, T3)], pairs(book))
        self.assertEqual([L2], told_there(book))
        self.assertEqual(before, contents(book))


class ToldThereTests(unittest.TestCase):
    def test_the_example(self):
        self.assertEqual([L2], told_there(example_book()))
        self.assertEqual([], told_there(Book()))

    def test_in_the_order_of_amounts_and_each_once(self):
        book = example_book()
        for amount in [T3, L2, T0, T3]:
            book.tell_some(amount)
        self.assertEqual([T0, L2, T3], told_there(book))

    def test_tell_does_not_tell_that_an_amount_is_there(self):
        book = example_book()
        book.tell(T0, L2)
        self.assertEqual([L2], told_there(book))

    def test_only_loose_cloths(self):
        book = two_kinds()
        for cloth, pot in [("cap", "ash"), ("hat", "ash"), ("hat", "elm"), ("cap", "elm"), ("cap", "elm")]:
            book.dip(cloth, pot)
        self.assertEqual([("leave", 3)], told_there(book))
        book.tell_some(L2)
        self.assertEqual([L2, ("leave", 3)], told_there(book))

    def test_many_books(self):
        for seed in SEEDS:
            book = random_book(seed)
            dips = list(book)
            expected = [amount for amount in book.amounts() if ("some", amount) in book.facts()
                        or amount[0] == "leave" and book.hold_of(book.kind_of(dips[amount[1]][0])) == "loose"]
            self.assertEqual(expected, told_there(book))


class FaultsTests(unittest.TestCase):
    def test_worlds(self):
        for seed in SEEDS:
            book = random_book(seed)
            self.assertEqual([], faults(book, {amount: 1 for amount in book.amounts()}))
        self.assertEqual([], faults(example_book(), {T0: 10 ** 50, T1: 0, T2: 0, L2: 1, T3: 0}))
        self.assertEqual([], faults(Book(), {}))

    def test_other_keys_are_not_looked_at(self):
        amounts = {T0: 1, T1: 1, T2: 1, L2: 1, T3: 1, ("leave", 0): -5, "x": None}
        before = dict(amounts)
        self.assertEqual([], faults(example_book(), amounts))
        self.assertEqual(before, amounts)

    def test_each_fault_alone(self):
        book = example_book()
        self.assertEqual([("missing", L2)], faults(book, {T0: 1, T1: 1, T2: 1, L2: 0, T3: 1}))
        self.assertEqual([("negative", T3)], faults(book, {T0: 1, T1: 1, T2: 1, L2: 1, T3: -1}))
        self.assertEqual([("negative", L2)], faults(book, {T0: 1, T1: 1, T2: 1, L2: -1, T3: 1}))
        self.assertEqual([("rising", T0, T1)], faults(book, {T0: 1, T1: 2, T2: 1, L2: 1, T3: 1}))
        self.assertEqual([("rising", T0, L2)], faults(book, {T0: 1, T1: 1, T2: 1, L2: 2, T3: 1}))

    def test_all_faults_in_their_order(self):
        book = example_book()
        book.tell_some(T1)
        book.tell(T3, T0)
        book.tell(T1, T0)
        book.tell(T3, T0)
        amounts = {T0: -3, T1: 0, T2: -5, L2: 0, T3: -4}
        before = dict(amounts)
        self.assertEqual([("negative", T0), ("missing", T1), ("negative", T2), ("missing", L2), ("negative", T3),
                          ("rising", T0, T1), ("rising", T0, L2), ("rising", T2, T3), ("rising", T3, T0),
                          ("rising", T3, T0)], faults(book, amounts))
        self.assertEqual(before, amounts)


class OrderTests(unittest.TestCase):
    def test_many_books(self):
        for seed in SEEDS:
            book = random_book(seed)
            order = Order(book)
            surely = closure(book)
            for couple in itertools.product(book.amounts(), repeat=2):
                self.assertIs(couple in surely, couple in order)

    def test_chains(self):
        for seed in SEEDS:
            book = random_book(seed)
            order = Order(book)
            surely = closure(book)
            comparisons = pairs(book)
            for more, less in itertools.product(book.amounts(), repeat=2):
                chain = order.chain(more, less)
                if (more, less) not in surely:
                    self.assertIsNone(chain)
                    continue
                self.assertEqual((more, less), (chain[0], chain[-1]))
                self.assertTrue(all(step in comparisons for step in zip(chain, chain[1:])))
                if more == less:
                    self.assertEqual([more], chain)

    def test_above_and_there(self):
        for seed in SEEDS:
            book = random_book(seed)
            order = Order(book)
            surely = closure(book)
            amounts = book.amounts()
            for some in [[], amounts, amounts[:1], amounts[-1:], amounts[::-3], amounts[1:2] * 2, told_there(book)]:
                expected = [more for more in amounts if any((more, less) in surely for less in some)]
                self.assertEqual(expected, order.above(some))
            self.assertEqual(order.above(told_there(book)), order.there())

    def test_the_example(self):
        order = Order(example_book())
        self.assertIs(True, (T0, T1) in order)
        self.assertIs(True, (T0, T0) in order)
        self.assertIs(False, (T1, T0) in order)
        self.assertEqual([T0, L2], order.chain(T0, L2))
        self.assertIsNone(order.chain(T2, L2))
        self.assertEqual([T0, L2], order.there())
        self.assertEqual([T0, T1, T2, T3], order.above([T3, T1]))

    def test_rings_of_facts(self):
        order = Order(ring_book())
        for couple in itertools.product([T0, T1], repeat=2):
            self.assertIn(couple, order)
        self.assertEqual([T2, T0, T1], order.chain(T2, T1))
        self.assertEqual([T1], order.chain(T1, T1))
        self.assertEqual([T0, T1, T2], order.above([T2]))
        self.assertEqual([], order.there())

    def test_a_ring_of_all_three_amounts(self):
        book = two_kinds()
        for cloth, pot in [("cap", "ash"), ("hat", "ash"), ("bow", "elm")]:
            book.dip(cloth, pot)
        for more, less in [(T0, T1), (T1, T2), (T2, T0)]:
            book.tell(more, less)
        order = Order(book)
        self.assertEqual([T0, T1, T2], order.chain(T0, T2))
        self.assertEqual([T2, T0, T1], order.chain(T2, T1))
        self.assertEqual([T1], order.chain(T1, T1))
        self.assertEqual([T0, T1, T2], order.above([T1]))
        book.tell_some(T1)
        self.assertEqual([], order.there())
        self.assertEqual([T0, T1, T2], Order(book).there())

    def test_an_order_shows_the_book_as_it_was(self):
        book = example_book()
        order = Order(book)
        before = contents(book)
        order.there()
        self.assertEqual(before, contents(book))
        book.dip("ribbon", "weld")
        book.tell(T1, T2)
        book.tell_some(T3)
        book.add_thirst("silk", "wool")
        self.assertNotIn((T1, T2), order)
        self.assertNotIn((T2, ("take", 4)), order)
        self.assertIsNone(order.chain(T1, T2))
        self.assertEqual([T0, L2], order.there())
        self.assertEqual([T2, T3], order.above([T3]))
        refused(self, BadAmount, ("take", 4), order.chain, T2, ("take", 4))
        self.assertIn((T1, T2), Order(book))

    def test_returned_lists_are_new(self):
        order = Order(example_book())
        for ask, arguments in [(order.chain, (T0, L2)), (order.chain, (T0, T0)), (order.above, ([T3],)),
                               (order.there, ())]:
            before = list(ask(*arguments))
            ask(*arguments).clear()
            self.assertEqual(before, ask(*arguments))

    def test_above_does_not_change_its_argument(self):
        asked = [T3, T1, T3]
        Order(example_book()).above(asked)
        self.assertEqual([T3, T1, T3], asked)

    def test_what_is_no_amount_of_the_book(self):
        order = Order(example_book())
        absent = [("leave", 0), ("leave", 1), ("leave", 3), ("take", 4), ("leave", 4), ("take", 10 ** 100)]
        for bad in [*absent, *NO_AMOUNTS]:
            for couple in [(bad, T0), (T0, bad), (bad, bad)]:
                self.assertIs(False, couple in order)
            refused(self, BadAmount, bad, order.chain, bad, T0)
            refused(self, BadAmount, bad, order.chain, T0, bad)
            refused(self, BadAmount, bad, order.chain, bad, None)
            refused(self, BadAmount, bad, order.above, [T0, bad, None])
            refused(self, BadAmount, bad, order.above, [bad])

    def test_a_full_book(self):
        book = full_book()
        order = Order(book)
        surely = closure(book)
        for couple in itertools.product(book.amounts(), repeat=2):
            self.assertIs(couple in surely, couple in order)
        self.assertIn((T0, ("take", 7)), order)
        self.assertNotIn((T0, ("take", 8)), order)
        self.assertIn((T0, ("leave", 8)), order)


if __name__ == "__main__":
    unittest.main()
