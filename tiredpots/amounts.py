"""Whole numbers and amounts: what they are, and the order of amounts."""

from tiredpots.errors import BadAmount, BadNumber

# In the order that two amounts of the same dip have.
WORDS = ("take", "leave")


def is_whole(value):
    """Tells whether the value is a whole number."""
    # Python counts True and False as integers, the document does not.
    return isinstance(value, int) and not isinstance(value, bool)


def is_amount(value):
    """Tells whether the value is an amount, of whatever book."""
    # The number is looked at before any look-up, since ("take", True) == ("take", 1).
    return (isinstance(value, tuple) and len(value) == 2
            and value[0] in WORDS and is_whole(value[1]) and value[1] >= 0)


def amount_place(amount):
    """Returns the key by which amounts are sorted."""
    return (amount[1], WORDS.index(amount[0]))


def check_amount(value):
    """Refuses what is not an amount."""
    if not is_amount(value):
        raise BadAmount(value)


def check_whole(value):
    """Refuses what is not a whole number."""
    if not is_whole(value):
        raise BadNumber(value)


def check_least(value, least):
    """Refuses what is not a whole number of at least `least`."""
    if not is_whole(value) or value < least:
        raise BadNumber(value)


def check_between(value, least, most):
    """Refuses what is not a whole number from `least` to `most`."""
    if not is_whole(value) or not least <= value <= most:
        raise BadNumber(value)


def check_moment(value, most):
    """Refuses what is neither None nor a whole number from 0 to `most`."""
    if value is not None:
        check_between(value, 0, most)
