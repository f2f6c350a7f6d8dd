import itertools
import unittest

from samples import NO_AMOUNTS, NO_WHOLE, refused
from tiredpots.errors import BadAmount, BadNumber
from tiredpots.forms import Form, total

T0, L0, T1, L1, T2, L2 = [(word, dip) for dip in range(3) for word in ("take", "leave")]
HUGE = 10 ** 100


def lists(*forms):
    return [list(form) for form in forms]


class MakingTests(unittest.TestCase):
    def test_without_terms(self):
        for form in [Form(), Form([]), Form(()), Form(terms=[])]:
            self.assertEqual([], list(form))
            self.assertEqual(0, len(form))

    def test_terms_in_a_list_and_in_a_tuple(self):
        terms = [(T0, 3), (L1, -2)]
        self.assertEqual(terms, list(Form(terms)))
        self.assertEqual(terms, list(Form(tuple(terms))))

    def test_amounts_come_in_their_order_whatever_the_order_of_the_terms(self):
        ordered = [(T0, 1), (L0, 2), (T1, 3), (L1, 4), (("take", 10), 5), (("leave", HUGE), 6)]
        for terms in itertools.permutations(ordered):
            self.assertEqual(ordered, list(Form(terms)))

    def test_numbers_of_the_same_amount_are_added(self):
        self.assertEqual([(T0, 6), (T1, 5)], list(Form([(T0, 1), (T1, 5), (T0, 2), (T0, 3)])))

    def test_sums_that_come_to_zero_are_left_out(self):
        self.assertEqual([(T1, 1)], list(Form([(T0, 4), (T1, 1), (T0, -4), (L0, 0)])))
        self.assertEqual([(T0, 7)], list(Form([(T0, 4), (T0, -4), (T0, 7)])))

    def test_numbers_of_any_size(self):
        form = Form([(T0, HUGE), (T0, 1), (L0, -HUGE)])
        self.assertEqual([(T0, HUGE + 1), (L0, -HUGE)], list(form))

    def test_bad_amounts_at_any_place(self):
        for bad in NO_AMOUNTS:
            for place in range(3):
                terms = [(T0, 1), (T1, 2)]
                terms.insert(place, (bad, 1))
                refused(self, BadAmount, bad, Form, terms)
                refused(self, BadAmount, bad, Form, tuple(terms))

    def test_bad_numbers_at_any_place(self):
        for bad in NO_WHOLE:
            for place in range(3):
                terms = [(T0, 1), (T1, 2)]
                terms.insert(place, (L0, bad))
                refused(self, BadNumber, bad, Form, terms)

    def test_only_the_first_bad_part_is_refused(self):
        refused(self, BadAmount, ("take", -1), Form, [(("take", -1), None), (T0, "x")])
        refused(self, BadNumber, None, Form, [(T0, None), (("take", -1), 1)])
        refused(self, BadNumber, True, Form, [(T0, 1), (T0, True), (("give", 0), 1)])
        refused(self, BadAmount, ("leave", True), Form, [(T0, 1), (("leave", True), True), (T0, None)])

    def test_the_list_of_terms_may_change_afterwards(self):
        terms = [(T0, 1), (T1, 2)]
        form = Form(terms)
        terms[0] = (T0, 9)
        terms.append((T2, 1))
        self.assertEqual([(T0, 1), (T1, 2)], list(form))

    def test_the_terms_are_not_changed(self):
        terms = [(T1, 1), (T0, 0), (T1, 2)]
        Form(terms)
        self.assertEqual([(T1, 1), (T0, 0), (T1, 2)], terms)


class ReadingTests(unittest.TestCase):
    def test_number_of_an_amount(self):
        form = Form([(T0, 3), (L1, -2)])
        self.assertEqual([3, 0, -2, 0], [form[T0], form[L0], form[L1], form["take", 999]])

    def test_number_of_what_is_no_amount(self):
        form = Form([(T0, 1), (T1, 1), (L1, 1)])
        for bad in NO_AMOUNTS:
            refused(self, BadAmount, bad, lambda: form[bad])

    def test_in(self):
        form = Form([(T1, 3), (L1, -2), (T0, 0)])
        self.assertIs(True, T1 in form)
        self.assertIs(True, L1 in form)
        self.assertIs(False, T0 in form)
        self.assertIs(False, T2 in form)

    def test_what_is_no_amount_is_not_in_a_form(self):
        form = Form([(T0, 1), (T1, 1), (L0, 1), (L1, 1)])
        for bad in NO_AMOUNTS:
            self.assertIs(False, bad in form)

    def test_len(self):
        self.assertEqual([0, 1, 2], [len(Form([(T0, 0)])), len(Form([(T0, 2)])), len(Form([(T0, 2), (L0, 9)]))])

    def test_equal_forms(self):
        self.assertTrue(Form([(T0, 1), (T1, 2)]) == Form([(T1, 1), (T0, 1), (T1, 1), (T2, 0)]))
        self.assertFalse(Form([(T0, 1), (T1, 2)]) != Form([(T1, 2), (T0, 1)]))
        self.assertTrue(Form() == Form([(T0, 1), (T0, -1)]))

    def test_unequal_forms(self):
        for other in [Form(), Form([(T0, 2)]), Form([(L0, 1)]), Form([(T0, 1), (T1, 1)])]:
            self.assertFalse(Form([(T0, 1)]) == other)
            self.assertTrue(Form([(T0, 1)]) != other)

    def test_what_is_no_form_is_not_equal(self):
        for other in [None, 0, True, "", [], (), {}, {T0: 1}, [(T0, 1)], ((T0, 1),)]:
            self.assertIs(False, Form([(T0, 1)]) == other)
            self.assertIs(False, Form() == other)
            self.assertIs(True, Form() != other)

    def test_iterating_twice_and_within(self):
        form = Form([(T1, 1), (T0, 1)])
        self.assertEqual([(a, b) for a in [T0, T1] for b in [T0, T1]],
                         [(one[0], two[0]) for one in form for two in form])


class ChangingTests(unittest.TestCase):
    def test_setting_a_number(self):
        form = same = Form([(T1, 3)])
        form[L0] = HUGE
        form[T1] = -4
        self.assertEqual([(L0, HUGE), (T1, -4)], list(same))
        form[T0] = 1
        self.assertEqual([T0, L0, T1], [amount for amount, number in same])

    def test_setting_zero(self):
        form = Form([(T0, 3), (T1, 1)])
        form[T0] = 0
        form[T2] = 0
        self.assertEqual([(T1, 1)], list(form))
        self.assertNotIn(T0, form)
        self.assertEqual(1, len(form))

    def test_setting_for_what_is_no_amount(self):
        form = Form([(T0, 3), (T1, 1)])
        for bad in NO_AMOUNTS:
            refused(self, BadAmount, bad, form.__setitem__, bad, 1)
            refused(self, BadAmount, bad, form.__setitem__, bad, None)
        self.assertEqual([(T0, 3), (T1, 1)], list(form))

    def test_setting_what_is_no_number(self):
        form = Form([(T0, 3), (T1, 1)])
        for bad in NO_WHOLE:
            refused(self, BadNumber, bad, form.__setitem__, T0, bad)
        self.assertEqual([(T0, 3), (T1, 1)], list(form))

    def test_a_form_may_be_changed_while_it_is_iterated_over(self):
        form = Form([(T0, 1), (T1, 2), (T2, 3)])
        for amount, number in form:
            form[amount] = 0
            form["leave", amount[1]] = number
        self.assertEqual([(L0, 1), (L1, 2), (L2, 3)], list(form))

    def test_adding_in_place_changes_that_very_object(self):
        form = same = Form([(T1, 3), (L1, 1)])
        other = Form([(T0, 1), (T1, -3), (L1, 1)])
        form += other
        self.assertIs(same, form)
        self.assertEqual([(T0, 1), (L1, 2)], list(same))
        self.assertEqual([(T0, 1), (T1, -3), (L1, 1)], list(other))

    def test_adding_a_form_to_itself(self):
        form = same = Form([(T1, 3), (L0, -1)])
        form += form
        self.assertIs(same, form)
        self.assertEqual([(L0, -2), (T1, 6)], list(same))

    def test_what_was_added_in_place_is_not_shared(self):
        form, other = Form(), Form([(T0, 1)])
        form += other
        form[T0] = 5
        other[T1] = 7
        self.assertEqual([[(T0, 5)], [(T0, 1), (T1, 7)]], lists(form, other))


class OperatorTests(unittest.TestCase):
    def setUp(self):
        self.form = Form([(T0, 7), (L0, -7), (T1, 1)])
        self.other = Form([(L0, 7), (T1, 2), (L2, HUGE)])

    def test_plus(self):
        self.assertEqual([(T0, 7), (T1, 3), (L2, HUGE)], list(self.form + self.other))
        self.assertEqual([(T0, 14), (L0, -14), (T1, 2)], list(self.form + self.form))
        self.assertEqual(self.form, self.form + Form())

    def test_minus(self):
        self.assertEqual([(T0, 7), (L0, -14), (T1, -1), (L2, -HUGE)], list(self.form - self.other))
        self.assertEqual([], list(self.form - self.form))
        self.assertEqual([(T0, -7), (L0, 7), (T1, -1)], list(Form() - self.form))

    def test_negative(self):
        self.assertEqual([(T0, -7), (L0, 7), (T1, -1)], list(-self.form))

    def test_times_from_both_sides(self):
        self.assertEqual([(T0, 21), (L0, -21), (T1, 3)], list(3 * self.form))
        self.assertEqual([(T0, -14), (L0, 14), (T1, -2)], list(self.form * -2))
        self.assertEqual([[], []], lists(0 * self.form, self.form * 0))
        self.assertEqual([(T0, 7 * HUGE), (L0, -7 * HUGE), (T1, HUGE)], list(HUGE * self.form))

    def test_quotients(self):
        self.assertEqual([(T0, 3), (L0, -4)], list(self.form // 2))
        self.assertEqual([(T0, 7), (L0, -7), (T1, 1)], list(self.form // 1))
        self.assertEqual([(L0, -1)], list(self.form // HUGE))

    def test_remainders(self):
        self.assertEqual([(T0, 1), (L0, 2), (T1, 1)], list(self.form % 3))
        self.assertEqual([], list(self.form % 1))
        self.assertEqual([(T1, 1)], list(self.form % 7))
        self.assertEqual([(T0, 7), (L0, HUGE - 7), (T1, 1)], list(self.form % HUGE))

    def test_quotients_and_remainders_belong_together(self):
        for number in range(1, 12):
            form = Form([(("take", place), place - 20) for place in range(41)])
            self.assertEqual(form, number * (form // number) + form % number)
            self.assertTrue(all(0 < rest < number for amount, rest in form % number))

    def test_what_no_form_is_divided_by(self):
        for bad in [0, -1, -HUGE, *NO_WHOLE]:
            refused(self, BadNumber, bad, lambda: self.form // bad)
            refused(self, BadNumber, bad, lambda: self.form % bad)
            refused(self, BadNumber, bad, lambda: Form() // bad)
            refused(self, BadNumber, bad, lambda: Form() % bad)

    def test_shift(self):
        self.assertEqual([(T2, 7), (L2, -7), (("take", 3), 1)], list(self.form << 2))
        self.assertEqual(self.form, self.form << 0)
        self.assertEqual([(("leave", HUGE), 3)], list(Form([(L0, 3)]) << HUGE))

    def test_what_no_form_is_shifted_by(self):
        for bad in [-1, -HUGE, *NO_WHOLE]:
            refused(self, BadNumber, bad, lambda: self.form << bad)
            refused(self, BadNumber, bad, lambda: Form() << bad)

    def test_absolute_numbers(self):
        self.assertEqual([(T0, 7), (L0, 7), (T1, 1)], list(abs(self.form)))

    def test_calling(self):
        self.assertEqual(7 * 2 - 7 * 3 + 5, self.form({T0: 2, L0: 3, T1: 5}))
        self.assertEqual(5, self.form({T1: 5, T2: 100, L2: -3}))
        self.assertEqual(7 * HUGE, self.form({T0: HUGE}))
        self.assertEqual([0, 0], [self.form({}), Form()({T0: 1})])

    def test_calling_looks_at_no_other_keys(self):
        amounts = {T0: 1, T2: "no number", "no amount": None}
        self.assertEqual(7, self.form(amounts))
        self.assertEqual({T0: 1, T2: "no number", "no amount": None}, amounts)

    def test_what_cannot_be_added_or_multiplied(self):
        form = same = Form([(T0, 1)])
        for other in [None, 1, "x", [(T0, 1)]]:
            for attempt in [lambda: form + other, lambda: form - other, lambda: form.__iadd__(other) + form]:
                self.assertRaises(TypeError, attempt)
        for other in [None, True, "x", Form()]:
            self.assertRaises(TypeError, lambda: form * other)
            self.assertRaises(TypeError, lambda: other * form)
        self.assertEqual([(T0, 1)], list(same))

    def results(self):
        """What each operator returns for the two forms."""
        form, other = self.form, self.other
        return [form + other, other + form, form - other, other - form, -form, 3 * form, form * 3, 1 * form,
                form * 1, form // 2, form % 2, form << 1, form << 0, form // 1, abs(form), form + Form(),
                form - Form(), Form() + form, total(form), total(form, other), total(form, form, times=2)]

    def test_operands_stay_as_they_are(self):
        before = lists(self.form, self.other)
        self.results()
        self.assertEqual(before, lists(self.form, self.other))

    def test_changing_a_result_changes_no_operand(self):
        before = lists(self.form, self.other)
        for result in self.results():
            self.assertIsInstance(result, Form)
            result[T0] = 1234
            result[T2] = 99
            result += self.other
        self.assertEqual(before, lists(self.form, self.other))

    def test_changing_an_operand_changes_no_result(self):
        results = self.results()
        before = lists(*results)
        self.form[T0] = 1234
        self.form += self.other
        self.other[L2] = 0
        self.assertEqual(before, lists(*results))


class TakeAndLeaveTests(unittest.TestCase):
    def test_take_and_leave(self):
        for number in [0, 1, 23, 24, HUGE]:
            self.assertEqual([(("take", number), 1)], list(Form.take(number)))
            self.assertEqual([(("leave", number), 1)], list(Form.leave(number)))

    def test_what_makes_no_amount(self):
        for bad in [-1, -HUGE, *NO_WHOLE]:
            refused(self, BadAmount, ("take", bad), Form.take, bad)
            refused(self, BadAmount, ("leave", bad), Form.leave, bad)

    def test_each_call_makes_a_new_form(self):
        first, second = Form.take(0), Form.take(0)
        first[T0] = 5
        self.assertEqual([(T0, 1)], list(second))


class TotalTests(unittest.TestCase):
    def test_none_one_and_several(self):
        one, two = Form([(T1, 2), (L0, 1)]), Form([(T0, 5), (L0, -1)])
        self.assertEqual([], list(total()))
        self.assertEqual([], list(total(times=5)))
        self.assertEqual([(L0, 1), (T1, 2)], list(total(one)))
        self.assertEqual([(T0, 5), (T1, 2)], list(total(one, two)))
        self.assertEqual([(T0, 10), (L0, -1), (T1, 2)], list(total(one, two, two)))

    def test_times(self):
        one, two = Form([(T1, 2), (L0, 1)]), Form([(T0, 5), (L0, -1)])
        self.assertEqual([(T0, 15), (T1, 6)], list(total(one, two, times=3)))
        self.assertEqual([(T0, -5), (T1, -2)], list(total(one, two, times=-1)))
        self.assertEqual([], list(total(one, two, times=0)))
        self.assertEqual([(L0, HUGE), (T1, 2 * HUGE)], list(total(one, times=HUGE)))

    def test_a_total_is_a_new_form(self):
        one = Form([(T1, 2)])
        result = total(one)
        result[T1] = 3
        self.assertIsNot(one, result)
        self.assertEqual([(T1, 2)], list(one))


if __name__ == "__main__":
    unittest.main()
