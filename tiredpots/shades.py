"""Which cloth is darker, by how much, and what is tainted."""

from math import gcd

from tiredpots.amounts import check_moment
from tiredpots.errors import NotSure
from tiredpots.forms import total
from tiredpots.further import with_dips
from tiredpots.order import Order
from tiredpots.paying import check_form, is_sure, settle

NAME_WIDTH = 12
MARK_WIDTH = 3


def compare(book, first, second, *, at=None):
    """Returns the mark of two cloths."""
    # Both cloths are looked at before the moment is.
    book.kind_of(first)
    book.kind_of(second)
    return _mark(Order(book), book.held(first, at=at) - book.held(second, at=at))


def table(book, *, at=None):
    """Returns a text with a line for each cloth, in which it is compared with each cloth."""
    check_moment(at, len(book))
    order = Order(book)
    held = {cloth: book.held(cloth, at=at) for cloth, _ in book.cloths()}
    lines = []
    for cloth in held:
        marks = [_mark(order, held[cloth] - held[other]) for other in held]
        lines.append(cloth.ljust(NAME_WIDTH) + "".join([mark.rjust(MARK_WIDTH) for mark in marks]) + "\n")
    return "".join(lines)


def pot_taint(book, pot, *, at=None):
    """Returns the taint of a pot."""
    return _taint(book, book.stain(pot, at=at))


def cloth_taint(book, cloth, *, at=None):
    """Returns the taint of a cloth."""
    return _taint(book, book.exposure(cloth, at=at))


class Ratio:
    """The sure ratio of two forms, with payments and a closed set that show it."""

    def __init__(self, top, low, payments, reached):
        self.top = top
        self.low = low
        self.payments = payments
        self.reached = reached


def sure_ratio(book, first, second):
    """Returns the sure ratio of two forms, or None if the second one is 0 in every world."""
    for form in (first, second):
        check_form(book, form)
    order = Order(book)
    for form in (first, second):
        if not is_sure(order, form):
            raise NotSure(total(form))
    _, reached = settle(order, -second)
    # While a ratio is too great, the next cut has a lesser one. Each cut is the one with the least
    # value of its form, so that few of them are needed.
    while reached is not None:
        top, low = _fraction(first, second, reached)
        payments, cut = settle(order, low * first - top * second)
        if cut is None:
            return Ratio(top, low, payments, reached)
        reached = cut
    return None


def foresee(book, dips, first, second):
    """Returns the mark of two cloths behind further dips, which the book does not get."""
    return compare(with_dips(book, dips), first, second)


def _mark(order, up):
    """Returns the mark of two cloths whose difference is the form."""
    rises, falls = is_sure(order, up), is_sure(order, -up)
    if rises and falls:
        return "="
    if rises:
        return ">" if is_sure(order, up, strict=True) else ">="
    if falls:
        return "<" if is_sure(order, -up, strict=True) else "<="
    return "?"


def _taint(book, form):
    """Returns the taint by a form."""
    if len(form) == 0:
        return "never"
    return "surely" if is_sure(Order(book), form, strict=True) else "perhaps"


def _fraction(first, second, amounts):
    """Returns the ratio of the values of two forms in lowest terms, each of the amounts counted once."""
    once = {amount: 1 for amount in amounts}
    top, low = first(once), second(once)
    shared = gcd(top, low)
    return top // shared, low // shared
