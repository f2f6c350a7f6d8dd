import itertools
import math
import random
import unittest
from fractions import Fraction

from samples import (
    check_answer, closed_sets, contents, example_book, full_book, kept_after, random_book, random_form,
    random_sure_form, refused, sure_by_sets, value_in)
from tiredpots.book import Book
from tiredpots.errors import BadAmount, NotSure
from tiredpots.forms import Form
from tiredpots.order import Order
from tiredpots.paying import ask
from tiredpots.shades import Ratio, sure_ratio

T0, T1, T2, L2, T3 = ("take", 0), ("take", 1), ("take", 2), ("leave", 2), ("take", 3)


def expected_ratio(first, second, sets):
    """The least quotient of the values in closed sets, as a tuple (top, low), or None."""
    least = min([Fraction(value_in(first, some), value_in(second, some)) for some in sets
                 if value_in(second, some) > 0], default=None)
    return None if least is None else (least.numerator, least.denominator)


class RatioTests(unittest.TestCase):
    def check(self, book, first, second):
        """Checks a ratio by the words of point 14, and returns it as a tuple, or None."""
        numbers = list(first), list(second), contents(book)
        ratio = sure_ratio(book, first, second)
        self.assertEqual(numbers, (list(first), list(second), contents(book)))
        if ratio is None:
            self.assertTrue(ask(book, -second).holds())
            return None
        self.assertIs(Ratio, type(ratio))
        self.assertEqual({"top", "low", "payments", "reached"}, set(vars(ratio)))
        self.assertEqual((int, int), (type(ratio.top), type(ratio.low)))
        self.assertTrue(ratio.top >= 0 and ratio.low >= 1 and math.gcd(ratio.top, ratio.low) == 1)
        kept_after(self, book, ratio.low * first - ratio.top * second, ratio.payments)
        self.assertIs(list, type(ratio.reached))
        self.assertEqual(Order(book).above(ratio.reached), ratio.reached)
        low = value_in(second, ratio.reached)
        self.assertGreater(low, 0)
        self.assertEqual(ratio.low * value_in(first, ratio.reached), ratio.top * low)
        return (ratio.top, ratio.low)

    def test_the_example(self):
        book = example_book()
        self.assertEqual((0, 1), self.check(book, book.held("shawl"), book.held("ribbon")))

    def test_small_books_against_all_closed_sets(self):
        found = []
        for seed in range(400):
            book, chance = random_book(seed, most=7), random.Random(seed)
            sets = closed_sets(book)
            for size in [1, 3, 10 ** 12, 10 ** 40]:
                first, second = [random_sure_form(chance, book, size) for _ in range(2)]
                self.assertTrue(sure_by_sets(book, first, False, sets))
                expected = expected_ratio(first, second, sets)
                self.assertEqual(expected, self.check(book, first, second), (seed, list(first), list(second)))
                found.append(expected)
        # Ratios of many sorts were met.
        self.assertGreater(len([one for one in found if one and min(one) > 1]), 50)
        self.assertGreater(found.count((0, 1)), 50)
        self.assertGreater(found.count(None), 50)

    def test_what_two_cloths_hold(self):
        for seed in range(60):
            book = random_book(seed, most=8)
            sets = closed_sets(book)
            for (first, _), (second, _) in itertools.product(book.cloths(), repeat=2):
                forms = [book.held(first), book.held(second)]
                bad = [form for form in forms if not sure_by_sets(book, form, False, sets)]
                if bad:
                    with self.assertRaises(NotSure) as caught:
                        sure_ratio(book, *forms)
                    self.assertEqual(bad[0], caught.exception.thing)
                    continue
                self.assertEqual(expected_ratio(*forms, sets), self.check(book, *forms))

    def test_a_form_with_itself(self):
        for seed in range(40):
            book, chance = random_book(seed), random.Random(seed)
            form = random_sure_form(chance, book)
            none = ask(book, -form).holds()
            self.assertEqual(None if none else (1, 1), self.check(book, form, form))

    def test_multiples(self):
        for seed in range(40):
            book, chance = random_book(seed), random.Random(seed)
            first, second = random_sure_form(chance, book), random_sure_form(chance, book)
            once = self.check(book, first, second)
            for up, down in [(2, 1), (1, 3), (10 ** 30, 10 ** 20 + 1), (6, 4)]:
                again = self.check(book, up * first, down * second)
                if once is None:
                    self.assertIsNone(again)
                    continue
                expected = Fraction(once[0] * up, once[1] * down)
                self.assertEqual((expected.numerator, expected.denominator), again)
                self.assertEqual((0, 1), self.check(book, 0 * first, down * second))

    def test_known_ratios(self):
        book = example_book()
        for first, second, ratio in [
                ([(T0, 6)], [(T0, 4)], (3, 2)), ([(T0, 6)], [(T1, 4)], (3, 2)), ([(T1, 6)], [(T0, 4)], (0, 1)),
                ([(T0, 1), (T2, 1)], [(T1, 3), (T3, 3)], (1, 3)), ([(T0, 4), (T2, 6)], [(T1, 1), (T3, 1)], (4, 1)),
                ([(T0, 3), (L2, 2)], [(T1, 5), (L2, 10)], (1, 3)), ([(T0, 3), (T1, 2)], [(T0, 5)], (3, 5)),
                ([(T0, 3), (T1, 2)], [(T0, 5), (T1, 5)], (1, 2)), ([], [(T0, 2)], (0, 1)), ([(T0, 2)], [], None),
                ([], [], None)]:
            self.assertEqual(ratio, self.check(book, Form(first), Form(second)))

    def test_great_numbers(self):
        book = example_book()
        for many in [10 ** 12, 2 ** 64 + 1, 10 ** 200]:
            first = Form([(T0, many + 1), (T2, many)])
            self.assertEqual((many, 1), self.check(book, first, Form([(T1, 1), (T3, 1)])))
            self.assertEqual((many + 1, many), self.check(book, first, Form([(T1, many)])))
            self.assertEqual((1, many), self.check(book, Form([(T0, 2)]), Form([(T1, 2 * many)])))

    def test_numbers_that_cancel_in_rings(self):
        book = example_book()
        book.tell(T1, T0)
        book.tell(T3, T2)
        nothing = Form([(T0, 10 ** 20), (T1, -10 ** 20), (T2, -3), (T3, 3)])
        self.assertIsNone(self.check(book, Form([(T0, 1)]), nothing))
        self.assertIsNone(self.check(book, nothing, nothing))
        self.assertEqual((0, 1), self.check(book, nothing, Form([(T0, 1)])))
        self.assertEqual((1, 2), self.check(book, Form([(T1, 1)]) + nothing, Form([(T0, 2)]) + 7 * nothing))
        self.assertEqual((0, 1), self.check(book, Form([(T0, 1)]), nothing + Form([(T2, 1)])))

    def test_books_without_amounts(self):
        self.assertIsNone(sure_ratio(Book(), Form(), Form()))

    def test_great_books(self):
        for seed in range(40):
            chance = random.Random(seed)
            book = full_book() if seed % 8 == 0 else random_book(seed, most=24)
            for size in [2, 10 ** 12]:
                first, second = [random_sure_form(chance, book, size) for _ in range(2)]
                self.check(book, first, second)
                self.check(book, first + second, second)

    def test_amounts_that_the_book_lacks(self):
        book = example_book()
        bad, worse = Form([(T0, 1), (("leave", 3), 1), (("take", 9), 1)]), Form([(("leave", 0), -1), (T1, -1)])
        good, unsure = Form([(T0, 1)]), Form([(T1, -1)])
        for first, second, amount in [
                (bad, worse, ("leave", 3)), (worse, bad, ("leave", 0)), (good, bad, ("leave", 3)),
                (unsure, worse, ("leave", 0)), (bad, unsure, ("leave", 3)), (bad, good, ("leave", 3))]:
            refused(self, BadAmount, amount, sure_ratio, book, first, second)

    def test_forms_that_are_not_sure(self):
        book = example_book()
        good, unsure, other = Form([(T0, 1)]), Form([(T1, 3), (T0, -2)]), Form([(T3, -1)])
        for first, second, bad in [(unsure, good, unsure), (good, unsure, unsure), (unsure, other, unsure),
                                   (other, unsure, other), (unsure, unsure, unsure), (Form(), other, other),
                                   (other, Form(), other)]:
            numbers = list(bad)
            with self.assertRaises(NotSure) as caught:
                sure_ratio(book, first, second)
            thing = caught.exception.thing
            self.assertEqual(bad, thing)
            self.assertTrue(first is not thing and second is not thing)
            thing[T0] = 77
            self.assertEqual(numbers, list(bad))

    def test_ratios_share_nothing(self):
        book = example_book()
        forms = [Form([(T0, 6)]), Form([(T1, 4)])]
        first, second = sure_ratio(book, *forms), sure_ratio(book, *forms)
        first.payments.clear()
        first.reached.clear()
        self.assertEqual([(T0, T1, 12)], second.payments)
        self.assertEqual([T0, T1], second.reached)
        self.assertEqual((3, 2), self.check(book, *forms))

    def test_asked_again_behind_changes(self):
        book = example_book()
        first, second = Form([(T1, 4)]), Form([(T3, 6)])
        self.assertEqual((0, 1), self.check(book, first, second))
        book.tell(T1, T3)
        self.assertEqual((2, 3), self.check(book, first, second))
        first += Form([(T0, 1)])
        self.assertEqual((5, 6), self.check(book, first, second))
        second[L2] = 10
        self.assertEqual((1, 10), self.check(book, first, second))
        book.tell(T2, L2)
        book.tell(T3, L2)
        self.assertEqual((5, 16), self.check(book, first, second))
        second[T0] = -1
        check_answer(self, book, second, ask(book, second))
        with self.assertRaises(NotSure):
            sure_ratio(book, first, second)

    def test_random_forms_are_taken_or_refused(self):
        for seed in range(200):
            book, chance = random_book(seed, most=6), random.Random(seed)
            sets = closed_sets(book)
            forms = [random_form(chance, book.amounts(), 3) for _ in range(2)]
            bad = [form for form in forms if not sure_by_sets(book, form, False, sets)]
            if not bad:
                self.check(book, *forms)
                continue
            with self.assertRaises(NotSure) as caught:
                sure_ratio(book, *forms)
            self.assertEqual(bad[0], caught.exception.thing)


if __name__ == "__main__":
    unittest.main()
