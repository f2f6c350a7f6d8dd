"""Whether a form is sure, with payments if it is, and with a world if it is not."""

from tiredpots.errors import BadAmount
from tiredpots.flows import Transport
from tiredpots.forms import total
from tiredpots.order import Order

# Stands among the amounts for what is to be kept of an amount that is surely there.
SPARE = "spare"


class Answer:
    """The answer to the question whether a form is sure."""

    def __init__(self, form):
        self.form = form

    def holds(self):
        """Tells whether the form is sure."""
        return False


class Sure(Answer):
    """The answer that the form is sure, or strictly sure if there is a spare amount."""

    def __init__(self, form, payments, spare):
        super().__init__(form)
        self.payments = payments
        self.spare = spare

    def holds(self):
        """Tells whether the form is sure."""
        return True


class Open(Answer):
    """The answer that the form is not sure, as a world shows."""

    def __init__(self, form, world):
        super().__init__(form)
        self.world = world

    def holds(self):
        """Tells whether the form is sure."""
        return False


def ask(book, form, *, strict=False):
    """Asks whether the form is sure in the book, or strictly sure, and returns a Sure or an Open."""
    check_form(book, form)
    order = Order(book)
    moves, cut = settle(order, form, strict=strict)
    if cut is not None:
        return Open(total(form), _world(book, order, form, cut))
    payments = [(more, less, number) for more, less, number in moves if less != SPARE]
    spares = [more for more, less, _ in moves if less == SPARE]
    return Sure(total(form), payments, spares[0] if spares else None)


def check_form(book, form):
    """Refuses a form with an amount that the book does not have."""
    own = book.amounts()
    for amount, _ in form:
        if amount not in own:
            raise BadAmount(amount)


def is_sure(order, form, *, strict=False):
    """Tells whether the form is sure, or strictly sure, under the order of a book."""
    _, cut = settle(order, form, strict=strict)
    return cut is None


def settle(order, form, *, strict=False):
    """Pays the form along the order as far as possible, and returns the payments and a cut.

    The cut is None if all is paid. Otherwise it is a closed set of amounts, as a list: with 1
    for each of them the form has a value below 0, and with no closed set a lesser one.

    If `strict` is True, a further payment goes to SPARE: 1 of an amount that is surely there,
    which keeps it. Then the value need not be the least one, and it may be 0, if with 1 for all
    amounts that are surely there as well it is at most 0.
    """
    gives = {amount: number for amount, number in form if number > 0}
    needs = {amount: -number for amount, number in form if number < 0}
    ways = {more: [less for less in needs if (more, less) in order] for more in gives}
    if strict:
        needs[SPARE] = 1
        for amount in order.there():
            if amount in gives:
                ways[amount].append(SPARE)
    transport = Transport(gives, needs, ways)
    short = transport.short()
    if short is None:
        return transport.moves(), None
    return transport.moves(), order.above([amount for amount in short if amount != SPARE])


def _world(book, order, form, cut):
    """Returns a world in which the cut of a form counts for more than what must be there."""
    low = {amount: 1 for amount in [*cut, *order.there()]}
    # Where this value is above 0, the value in the cut is below 0.
    high = 2 + max(0, form(low))
    world = {amount: low.get(amount, 0) for amount in book.amounts()}
    for amount in cut:
        world[amount] = high
    return world
