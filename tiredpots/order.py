"""The comparisons of a book, its worlds, and the order of its amounts."""

from tiredpots.amounts import is_amount
from tiredpots.chains import path_to, steps_of, walk
from tiredpots.errors import BadAmount


def pairs(book):
    """Returns a list of all comparisons of the book."""
    dips = list(book)
    own = book.amounts()
    found = []
    for number in range(len(dips)):
        found.extend(_falls(book, dips, number))
        if ("leave", number) in own:
            found.append((("take", book.previous(number)), ("leave", number)))
    told = [(fact[1], fact[2]) for fact in book.facts() if fact[0] == "tell"]
    return [*found, *told]


def _falls(book, dips, late):
    """Returns the falls that end at the take of the dip `late`."""
    cloth, pot = dips[late]
    kind = book.kind_of(cloth)
    return [(("take", early), ("take", late)) for early in range(late)
            if dips[early][1] == pot and book.thirstier(book.kind_of(dips[early][0]), kind)]


def told_there(book):
    """Returns a list of the amounts that are told to be there."""
    dips = list(book)
    some = [fact[1] for fact in book.facts() if fact[0] == "some"]
    return [amount for amount in book.amounts() if amount in some or _is_loose(book, dips, amount)]


def _is_loose(book, dips, amount):
    """Tells whether the amount is the leave of a cloth that surely leaves some colour."""
    word, number = amount
    return word == "leave" and book.hold_of(book.kind_of(dips[number][0])) == "loose"


def faults(book, amounts):
    """Returns a list of what keeps the numbers of the amounts from being a world."""
    there = told_there(book)
    found = []
    for amount in book.amounts():
        if amounts[amount] < 0:
            found.append(("negative", amount))
        if amounts[amount] == 0 and amount in there:
            found.append(("missing", amount))
    rising = [("rising", more, less) for more, less in pairs(book) if amounts[more] < amounts[less]]
    return [*found, *rising]


class Order:
    """Which amounts are surely at least which, as the book is when the object is made."""

    def __init__(self, book):
        steps = steps_of(pairs(book))
        self._below = {amount: walk([amount], steps) for amount in book.amounts()}
        self._told = told_there(book)

    def __contains__(self, couple):
        more, less = couple
        return self._has(more) and self._has(less) and less in self._below[more]

    def chain(self, more, less):
        """Returns a chain of comparisons as a list of amounts, or None if there is none."""
        self._check_own(more)
        self._check_own(less)
        return path_to(less, self._below[more]) if less in self._below[more] else None

    def above(self, amounts):
        """Returns a list of the amounts that are surely at least one of these amounts."""
        for amount in amounts:
            self._check_own(amount)
        return [more for more in self._below if any([less in self._below[more] for less in amounts])]

    def there(self):
        """Returns a list of all amounts that are surely there."""
        return self.above(self._told)

    def _has(self, amount):
        """Tells whether the value is an amount of the book."""
        return is_amount(amount) and amount in self._below

    def _check_own(self, amount):
        """Refuses what is not an amount of the book."""
        if not self._has(amount):
            raise BadAmount(amount)
