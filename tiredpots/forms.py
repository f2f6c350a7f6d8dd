"""Forms: sums of multiples of amounts."""

from tiredpots.amounts import amount_place, check_amount, check_least, check_whole, is_amount, is_whole


def _tidy(numbers):
    """Returns the numbers other than 0, in the order of their amounts."""
    ordered = sorted(list(numbers), key=amount_place)
    return {amount: numbers[amount] for amount in ordered if numbers[amount] != 0}


def _summed(terms):
    """Returns the numbers that the terms give to the amounts, or refuses the first bad part."""
    numbers = {}
    for amount, number in terms:
        check_amount(amount)
        check_whole(number)
        numbers[amount] = numbers.get(amount, 0) + number
    return _tidy(numbers)


class Form:
    """A whole number for each amount, other than 0 for finitely many of them."""

    # Each change puts a new dict in the place of the old one, so that a loop over
    # a form may change that form.

    def __init__(self, terms=()):
        self._numbers = _summed(terms)

    def __getitem__(self, amount):
        check_amount(amount)
        return self._numbers.get(amount, 0)

    def __setitem__(self, amount, number):
        check_amount(amount)
        check_whole(number)
        numbers = {key: self._numbers[key] for key in self._numbers}
        numbers[amount] = number
        self._numbers = _tidy(numbers)

    def __contains__(self, amount):
        return is_amount(amount) and amount in self._numbers

    def __len__(self):
        return len(self._numbers)

    def __iter__(self):
        return iter(self._numbers.items())

    def __eq__(self, other):
        return isinstance(other, Form) and self._numbers == other._numbers

    def __add__(self, other):
        if not isinstance(other, Form):
            return NotImplemented
        return Form([*self, *other])

    def __iadd__(self, other):
        if not isinstance(other, Form):
            return NotImplemented
        self._numbers = _summed([*self, *other])
        return self

    def __sub__(self, other):
        if not isinstance(other, Form):
            return NotImplemented
        return self + (-other)

    def __neg__(self):
        return Form([(amount, -number) for amount, number in self])

    def __mul__(self, other):
        if not is_whole(other):
            return NotImplemented
        return Form([(amount, number * other) for amount, number in self])

    def __rmul__(self, other):
        return self * other

    def __floordiv__(self, other):
        check_least(other, 1)
        return Form([(amount, number // other) for amount, number in self])

    def __mod__(self, other):
        check_least(other, 1)
        return Form([(amount, number % other) for amount, number in self])

    def __lshift__(self, other):
        check_least(other, 0)
        return Form([((word, dip + other), number) for (word, dip), number in self])

    def __abs__(self):
        return Form([(amount, abs(number)) for amount, number in self])

    def __call__(self, amounts):
        return sum([number * amounts.get(amount, 0) for amount, number in self])

    @staticmethod
    def take(number):
        """Returns the form of the take of the dip with this number."""
        return Form([(("take", number), 1)])

    @staticmethod
    def leave(number):
        """Returns the form of the leave of the dip with this number."""
        return Form([(("leave", number), 1)])


def total(*forms, times=1):
    """Returns the sum of the forms, multiplied by the number `times`."""
    return Form([term for form in forms for term in form]) * times
