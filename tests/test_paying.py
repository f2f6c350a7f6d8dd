import itertools
import random
import sys
import unittest

from samples import (
    ROOMS, check_answer, closed_sets, contents, example_book, full_book, random_book, random_form, refused,
    sure_by_sets)
from tiredpots.book import Book
from tiredpots.errors import BadAmount
from tiredpots.forms import Form
from tiredpots.order import Order
from tiredpots.paying import Answer, Open, Sure, ask

T0, T1, T2, L2, T3 = ("take", 0), ("take", 1), ("take", 2), ("leave", 2), ("take", 3)
SEEDS = range(40)
NUMBERS = [1, 2, 7, 2 ** 64, 10 ** 300]


def loose_falls(many, thirsty=False):
    """A book with so many dips of different cloths in one pot, which need not fall if the kinds differ."""
    book = Book()
    book.add_pot("ash")
    for room in ROOMS:
        book.add_kind(room)
        book.add_cloth(room, room)
    if thirsty:
        for first, second in zip(ROOMS, ROOMS[1:]):
            book.add_thirst(first, second)
    for number in range(many):
        book.dip(ROOMS[number], "ash")
    return book


def free_book():
    """A full book in which no take is surely at least another one."""
    book = Book()
    for room in ROOMS:
        book.add_kind(room, hold="fast")
        book.add_cloth(room, room)
        book.add_pot(room)
    for number in range(24):
        book.dip(ROOMS[number % 8], ROOMS[(number + number // 8) % 8])
    return book


def calls_of(work):
    """How many functions are called by the work."""
    many = [0]

    def count(frame, event, arg):
        many[0] += 1

    sys.setprofile(count)
    try:
        work()
    finally:
        sys.setprofile(None)
    return many[0]


class AskTests(unittest.TestCase):
    def both(self, book, form):
        """Checks both questions about a form, and returns their answers as True or False."""
        return [check_answer(self, book, form, ask(book, form, strict=strict), strict) for strict in (False, True)]

    def test_the_example(self):
        book = example_book()
        answer = ask(book, book.held("shawl", at=2) - book.held("ribbon", at=2))
        self.assertEqual([(T0, T1, 1)], answer.payments)
        self.assertIsNone(answer.spare)
        self.assertIs(True, answer.holds())

    def test_small_books_against_all_closed_sets(self):
        for seed in range(300):
            book, chance = random_book(seed, most=7), random.Random(seed)
            sets = closed_sets(book)
            for size in [1, 2, 5, 5, 9]:
                form = random_form(chance, book.amounts(), size)
                expected = [sure_by_sets(book, form, strict, sets) for strict in (False, True)]
                self.assertEqual(expected, self.both(book, form), (seed, list(form)))

    def test_two_sided_forms_of_small_books_against_all_closed_sets(self):
        for seed in range(300):
            book, chance = random_book(seed, most=7), random.Random(seed)
            sets, amounts = closed_sets(book), book.amounts()
            if not amounts:
                continue
            terms = [[(chance.choice(amounts), number) for number in (1, 1, 2, -1, -1, -2)] for _ in range(6)]
            for form in [Form(some) for some in terms]:
                expected = [sure_by_sets(book, form, strict, sets) for strict in (False, True)]
                self.assertEqual(expected, self.both(book, form), (seed, list(form)))

    def test_one_amount_less_another_one(self):
        for seed in SEEDS:
            book = random_book(seed, most=8)
            order = Order(book)
            for number, (more, less) in zip(itertools.cycle(NUMBERS), itertools.permutations(book.amounts(), 2)):
                form = Form([(more, number), (less, -number)])
                self.assertEqual([(more, less) in order, False], self.both(book, form))

    def test_one_amount_alone(self):
        for seed in SEEDS:
            book = random_book(seed)
            there = Order(book).there()
            for number, amount in zip(itertools.cycle(NUMBERS), book.amounts()):
                self.assertEqual([True, amount in there], self.both(book, Form([(amount, number)])))
                self.assertEqual([False, False], self.both(book, Form([(amount, -number)])))

    def test_forms_without_amounts(self):
        for book in [Book(), Book(bound=0), example_book(), full_book(), *map(random_book, SEEDS)]:
            self.assertEqual([True, False], self.both(book, Form()))
            self.assertEqual([], ask(book, Form()).payments)
        self.assertEqual({}, ask(Book(), Form(), strict=True).world)

    def test_sums_and_multiples(self):
        for seed in SEEDS:
            book, chance = random_book(seed, most=10), random.Random(seed)
            if not book.amounts():
                continue
            order = Order(book)
            for _ in range(4):
                couples = [chance.sample(order.above([chance.choice(book.amounts())]), 1) for _ in range(3)]
                form = sum((Form([(one, chance.choice(NUMBERS))]) for one, in couples), Form())
                for number in NUMBERS:
                    self.assertEqual(self.both(book, form), self.both(book, number * form))
                    self.assertEqual([False, False], self.both(book, form * -number))

    def test_sums_of_what_is_surely_at_least(self):
        for seed in SEEDS:
            book, chance = random_book(seed), random.Random(seed)
            order = Order(book)
            couples = [both for both in itertools.permutations(book.amounts(), 2) if both in order]
            if not couples:
                continue
            form = Form()
            for more, less in chance.choices(couples, k=12):
                form += chance.choice(NUMBERS) * Form([(more, 1), (less, -1)])
            self.assertEqual([True, False], self.both(book, form))
            for amount in book.amounts():
                sure, strictly = self.both(book, form + Form([(amount, 1)]))
                self.assertTrue(sure)
                self.assertTrue(strictly or amount not in order.there())

    def test_what_cloths_hold_at_every_moment(self):
        for seed in range(25):
            book = random_book(seed, most=7)
            sets = closed_sets(book)
            for at in [None, *range(len(book) + 1)]:
                for (first, _), (second, _) in itertools.product(book.cloths(), repeat=2):
                    for form in [book.held(first, at=at), book.held(first, at=at) - book.held(second, at=at)]:
                        expected = [sure_by_sets(book, form, strict, sets) for strict in (False, True)]
                        self.assertEqual(expected, self.both(book, form))

    def test_what_cloths_hold_in_great_books(self):
        for book in [full_book(), *map(random_book, SEEDS)]:
            for at in [None, *range(0, len(book) + 1, 3)]:
                for (first, _), (second, _) in itertools.combinations(book.cloths(), 2):
                    self.both(book, book.held(first, at=at) - book.held(second, at=at))

    def test_rings_of_facts(self):
        book = example_book()
        book.tell(T3, T0)
        book.tell(T1, T2)
        # Now each of T0, T1, T2 and T3 is surely at least each other one.
        form = Form([(T0, -3), (T1, 10 ** 30), (T2, 5), (T3, -2 - 10 ** 30)])
        self.assertEqual([True, False], self.both(book, form))
        self.assertEqual([True, False], self.both(book, -form))
        self.assertEqual([True, True], self.both(book, form + Form([(T1, 1)])))
        self.assertEqual([False, False], self.both(book, form - Form([(T1, 1)])))
        self.assertEqual([True, False], self.both(book, form + Form([(T3, 1), (L2, -1)])))
        self.assertEqual([False, False], self.both(book, form - Form([(T3, 1), (L2, -1)])))

    def test_several_payments(self):
        book = loose_falls(4, thirsty=True)
        form = Form([(T0, 5), (T1, -4), (T2, 2), (T3, -3)])
        self.assertEqual([True, False], self.both(book, form))
        book.tell_some(T3)
        self.assertEqual([True, False], self.both(book, form))
        self.assertEqual([True, True], self.both(book, form + Form([(T0, 1)])))
        self.assertEqual([True, True], self.both(book, form + Form([(T3, 1)])))
        self.assertEqual([False, False], self.both(book, form + Form([(T3, -1)])))

    def test_payments_that_must_be_taken_back(self):
        # Both T0 and T1 can pay T3, but T0 alone can pay T2.
        for more, less in itertools.permutations([T0, T1]):
            book = loose_falls(4)
            for couple in [(more, T3), (less, T3), (more, T2)]:
                book.tell(*couple)
            for number in NUMBERS:
                form = number * Form([(T0, 1), (T1, 1), (T2, -1), (T3, -1)])
                self.assertEqual([True, False], self.both(book, form))
                self.assertEqual([False, False], self.both(book, form - Form([(T2, 1)])))
                self.assertEqual([False, False], self.both(book, form - Form([(T3, 1)])))

    def test_strict_questions_of_forms_that_are_0_in_some_world(self):
        book = example_book()
        self.assertEqual([True, False], self.both(book, Form([(T0, 1), (T1, -1)])))
        self.assertEqual([True, False], self.both(book, Form([(T2, 1)])))
        self.assertEqual([True, True], self.both(book, Form([(T0, 1)])))
        self.assertEqual([True, False], self.both(book, Form([(T0, 1), (L2, -1)])))
        self.assertEqual([True, True], self.both(book, Form([(T0, 2), (L2, -1)])))
        self.assertEqual([True, True], self.both(book, Form([(T0, 2), (T1, -1)])))
        self.assertEqual([True, False], self.both(book, Form([(T0, 2), (T1, -2), (T2, 1)])))
        self.assertEqual([True, True], self.both(book, Form([(T0, 1), (T1, -1), (L2, 1)])))

    def test_a_strict_question_needs_only_one_amount_that_is_there(self):
        book = example_book()
        book.tell_some(T3)
        for amount in [T0, T2, L2, T3]:
            self.assertEqual([True, True], self.both(book, Form([(amount, 1)])))
        self.assertEqual([True, False], self.both(book, Form([(T1, 1)])))

    def test_an_amount_that_is_there_and_pays_all_of_it_is_not_spare(self):
        book = loose_falls(3, thirsty=True)
        book.tell_some(T1)
        self.assertEqual([True, False], self.both(book, Form([(T0, 1), (T1, -1)])))
        self.assertEqual([True, False], self.both(book, Form([(T0, 1), (T1, -1), (T2, 1)])))
        self.assertEqual([True, True], self.both(book, Form([(T0, 1), (T1, 1), (T2, -1)])))

    def test_great_numbers(self):
        book = loose_falls(3, thirsty=True)
        high = 10 ** 1000
        self.assertEqual([True, False], self.both(book, Form([(T0, high), (T1, -high + 1), (T2, -1)])))
        self.assertEqual([False, False], self.both(book, Form([(T0, high), (T1, -high), (T2, -1)])))
        self.assertEqual([False, False], self.both(book, Form([(T0, high), (T1, -high - 1), (T2, high)])))

    def test_a_no_is_shown_although_the_rest_is_worth_much(self):
        book = example_book()
        for number in NUMBERS:
            self.assertEqual([False, False], self.both(book, Form([(T0, number), (T3, -1)])))
            self.assertEqual([False, False], self.both(book, Form([(T0, number), (L2, number), (T2, -1)])))

    def test_the_steps_do_not_grow_with_the_numbers(self):
        for seed in SEEDS:
            book, chance = random_book(seed), random.Random(seed)
            form = random_form(chance, book.amounts(), 100)
            great = form * 10 ** 60
            for strict in (False, True):
                few = calls_of(lambda: ask(book, form, strict=strict))
                self.assertLess(calls_of(lambda: ask(book, great, strict=strict)), few + 100)

    def test_the_steps_do_not_grow_with_the_closed_sets(self):
        book = free_book()
        amounts = book.amounts()
        self.assertEqual(24, len(amounts))
        self.assertEqual([], [both for both in itertools.permutations(amounts, 2) if both in Order(book)])
        everything = Form([(amount, 1) for amount in amounts])
        self.assertEqual([True, False], self.both(book, everything))
        for amount in amounts:
            self.assertEqual([False, False], self.both(book, everything - Form([(amount, 2)])))
        self.assertLess(calls_of(lambda: ask(book, everything)), 10 ** 5)

    def test_a_full_book(self):
        book = full_book()
        order, amounts = Order(book), book.amounts()
        chance = random.Random(0)
        for size in [1, 3, 10 ** 40] * 3:
            form = random_form(chance, amounts, size)
            self.both(book, form)
            self.assertEqual([True, True], self.both(book, abs(form) + Form([(order.there()[0], 1)])))

    def test_amounts_that_the_book_lacks(self):
        book = example_book()
        absent = [("leave", 0), ("leave", 1), ("leave", 3), ("take", 4), ("leave", 4), ("take", 10 ** 50)]
        for place, bad in enumerate(absent):
            others = [(amount, -1) for amount in [*absent[place:], *book.amounts()]]
            for form in [Form([(bad, 1)]), Form(others), Form(others[::-1])]:
                for strict in (False, True):
                    refused(self, BadAmount, bad, ask, book, form, strict=strict)
                    self.assertEqual(1, abs(form[bad]))
        refused(self, BadAmount, ("take", 0), ask, Book(), Form([(("leave", 0), 1), (("take", 0), 1)]))

    def test_a_leave_that_a_dip_does_not_have_comes_first_among_the_later_ones(self):
        book = example_book()
        form = Form([(("take", 7), 1), (("leave", 3), 1), (("take", 3), 1), (("leave", 5), 1)])
        refused(self, BadAmount, ("leave", 3), ask, book, form)

    def test_neither_the_book_nor_the_form_changes(self):
        book = example_book()
        before = contents(book)
        for form in [Form([(T0, 3), (T1, -2)]), Form([(T1, 3), (T0, -2)])]:
            numbers = list(form)
            for strict in (False, True):
                answer = ask(book, form, strict=strict)
                answer.form[T0] = 99
                answer.form += Form.take(3)
                self.assertEqual(numbers, list(form))
                again = ask(book, form, strict=strict)
                form[T0] = form[T0] + 1
                self.assertEqual(numbers, list(again.form))
                form[T0] = form[T0] - 1
        self.assertEqual(before, contents(book))

    def test_answers_share_nothing(self):
        book = example_book()
        yes, no = Form([(T0, 3), (T1, -2)]), Form([(T1, 3), (T0, -2)])
        first, second = ask(book, yes), ask(book, yes)
        first.payments.clear()
        self.assertEqual([(T0, T1, 2)], second.payments)
        first, second = ask(book, no), ask(book, no)
        first.world.clear()
        check_answer(self, book, no, second)

    def test_asked_again_behind_changes(self):
        book = example_book()
        form = Form([(T1, 1), (T2, -1)])
        self.assertEqual([False, False], self.both(book, form))
        book.tell(T1, T2)
        self.assertEqual([True, False], self.both(book, form))
        form += Form.take(0)
        self.assertEqual([True, True], self.both(book, form))
        form[T0] = -1
        self.assertEqual([False, False], self.both(book, form))
        other = Form([(T2, 1)])
        self.assertEqual([True, False], self.both(book, other))
        book.tell_some(T2)
        self.assertEqual([True, True], self.both(book, other))
        fall = Form([(T1, 1), (("take", 4), -1)])
        refused(self, BadAmount, ("take", 4), ask, book, fall)
        book.dip("shawl", "madder")
        self.assertEqual([False, False], self.both(book, fall))
        book.add_thirst("silk", "wool")
        self.assertEqual([True, False], self.both(book, fall))


class AnswerTests(unittest.TestCase):
    def test_classes(self):
        self.assertTrue(issubclass(Sure, Answer))
        self.assertTrue(issubclass(Open, Answer))
        self.assertFalse(issubclass(Sure, Open) or issubclass(Open, Sure))

    def test_the_base_class(self):
        form = Form.take(0)
        answer = Answer(form)
        self.assertEqual(form, answer.form)
        self.assertIs(False, answer.holds())
        self.assertEqual({"form"}, set(vars(answer)))

    def test_fields(self):
        book = example_book()
        self.assertEqual({"form", "payments", "spare"}, set(vars(ask(book, Form()))))
        self.assertEqual({"form", "world"}, set(vars(ask(book, -Form.take(0)))))


if __name__ == "__main__":
    unittest.main()
