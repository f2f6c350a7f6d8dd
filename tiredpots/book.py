"""The book: kinds, thirsts, pots, cloths, dips and facts."""

from tiredpots.amounts import check_between, check_moment, is_amount
from tiredpots.chains import steps_of, walk
from tiredpots.errors import BadAmount, BadHold, BadName, Full, Known, Unknown
from tiredpots.forms import Form

HOLDS = ("fast", "loose", "unsure")
LETTERS = "abcdefghijklmnopqrstuvwxyz"
LONGEST_NAME = 12
TRAITS = ("cloth", "pot", "kind")


def _is_name(value):
    """Tells whether a kind, a pot or a cloth may have the value as its name."""
    return (isinstance(value, str) and 1 <= len(value) <= LONGEST_NAME
            and all([letter in LETTERS for letter in value]))


def _check_new(name, known):
    """Refuses what is not a name, and a name that is known already."""
    if not _is_name(name):
        raise BadName(name)
    if name in known:
        raise Known(name)


def _check_known(name, known):
    """Refuses what is not one of the known names."""
    if not isinstance(name, str) or name not in known:
        raise Unknown(name)


def _check_room(things, most):
    """Refuses a further thing beside so many."""
    if len(things) >= most:
        raise Full(most)


class Book:
    """A book of dips, with what is known about the amounts of colour in them."""

    NAMES = 8
    THIRSTS = 32
    FACTS = 32
    DIPS = 24

    def __init__(self, *, bound=24):
        check_between(bound, 0, Book.DIPS)
        self._bound = bound
        self._kinds = {}
        self._thirsts = []
        self._pots = []
        self._cloths = {}
        self._dips = []
        self._facts = []

    @property
    def bound(self):
        """The greatest number of dips that the book may have."""
        return self._bound

    @bound.setter
    def bound(self, number):
        check_between(number, len(self._dips), Book.DIPS)
        self._bound = number

    def change_bound(self, number):
        """Gives the book another bound."""
        self.bound = number

    def add_kind(self, name, *, hold="unsure"):
        """Adds a kind of cloth."""
        _check_new(name, self._kinds)
        if hold not in HOLDS:
            raise BadHold(hold)
        _check_room(self._kinds, Book.NAMES)
        self._kinds[name] = hold

    def add_thirst(self, more, less):
        """Adds that one kind is at least as thirsty as another one."""
        _check_known(more, self._kinds)
        _check_known(less, self._kinds)
        _check_room(self._thirsts, Book.THIRSTS)
        self._thirsts.append((more, less))

    def add_pot(self, name):
        """Adds a pot."""
        _check_new(name, self._pots)
        _check_room(self._pots, Book.NAMES)
        self._pots.append(name)

    def add_cloth(self, name, kind):
        """Adds a cloth of a kind."""
        _check_new(name, self._cloths)
        _check_known(kind, self._kinds)
        _check_room(self._cloths, Book.NAMES)
        self._cloths[name] = kind

    def dip(self, cloth, pot):
        """Adds a dip of a cloth into a pot, and returns the number of the dip."""
        _check_known(cloth, self._cloths)
        _check_known(pot, self._pots)
        _check_room(self._dips, self._bound)
        # A new list, so that a loop over the book that adds dips comes to an end.
        self._dips = [*self._dips, (cloth, pot)]
        return len(self._dips) - 1

    def tell(self, more, less):
        """Adds the fact that one amount is at least another one."""
        self._check_own(more)
        self._check_own(less)
        _check_room(self._facts, Book.FACTS)
        self._facts.append(("tell", more, less))

    def tell_some(self, amount):
        """Adds the fact that an amount is more than 0."""
        self._check_own(amount)
        _check_room(self._facts, Book.FACTS)
        self._facts.append(("some", amount))

    def kinds(self):
        """Returns a list of the tuples (name, hold) of the kinds."""
        return list(self._kinds.items())

    def thirsts(self):
        """Returns a list of the thirsts."""
        return list(self._thirsts)

    def pots(self):
        """Returns a list of the names of the pots."""
        return list(self._pots)

    def cloths(self):
        """Returns a list of the tuples (name, kind) of the cloths."""
        return list(self._cloths.items())

    def facts(self):
        """Returns a list of the facts."""
        return list(self._facts)

    def __len__(self):
        return len(self._dips)

    def __iter__(self):
        return iter(self._dips)

    def kind_of(self, cloth):
        """Returns the kind of a cloth."""
        _check_known(cloth, self._cloths)
        return self._cloths[cloth]

    def hold_of(self, kind):
        """Returns the hold of a kind."""
        _check_known(kind, self._kinds)
        return self._kinds[kind]

    def thirstier(self, first, second):
        """Tells whether the first kind is at least as thirsty as the second one."""
        _check_known(first, self._kinds)
        _check_known(second, self._kinds)
        return second in walk([first], steps_of(self._thirsts))

    def previous(self, number):
        """Returns the number of the last earlier dip of the same cloth, or None."""
        check_between(number, 0, len(self._dips) - 1)
        cloth, _ = self._dips[number]
        return max([dip for dip in range(number) if self._dips[dip][0] == cloth], default=None)

    def amounts(self):
        """Returns a list of all amounts of the book."""
        found = []
        for number in range(len(self._dips)):
            found.append(("take", number))
            if self._has_leave(number):
                found.append(("leave", number))
        return found

    def where(self, **asked):
        """Returns a list of the numbers of the dips that have all the asked traits."""
        for word in asked:
            if word not in TRAITS:
                raise Unknown(word)
        return [number for number, dip in enumerate(self._dips) if self._matches(dip, asked)]

    def held(self, cloth, *, at=None):
        """Returns the form of what a cloth holds after the first `at` dips."""
        _check_known(cloth, self._cloths)
        end = self._moment(at)
        dips = [number for number in self.where(cloth=cloth) if number < end]
        takes = [(("take", number), 1) for number in dips]
        leaves = [(("leave", number), -1) for number in dips if self._has_leave(number)]
        return Form([*takes, *leaves])

    def stain(self, pot, *, at=None):
        """Returns the form of what was left behind in a pot by the first `at` dips."""
        _check_known(pot, self._pots)
        end = self._moment(at)
        return Form([(("leave", number), 1) for number in self.where(pot=pot)
                     if number < end and self._has_leave(number)])

    def exposure(self, cloth, *, at=None):
        """Returns the form of what other cloths had left in the pots of a cloth's dips."""
        _check_known(cloth, self._cloths)
        end = self._moment(at)
        return Form([(("leave", earlier), 1) for number in self.where(cloth=cloth)
                     if number < end for earlier in self._foreign_leaves(number)])

    def duplicate(self):
        """Returns a new book with the same contents and the same bound."""
        other = Book(bound=self._bound)
        other._kinds = dict(self._kinds)
        other._thirsts = list(self._thirsts)
        other._pots = list(self._pots)
        other._cloths = dict(self._cloths)
        other._dips = list(self._dips)
        other._facts = list(self._facts)
        return other

    def _check_own(self, amount):
        """Refuses what is not an amount of the book."""
        if not is_amount(amount) or amount not in self.amounts():
            raise BadAmount(amount)

    def _has_leave(self, number):
        """Tells whether the dip may leave colour behind in its pot."""
        cloth, pot = self._dips[number]
        previous = self.previous(number)
        return (previous is not None and self._dips[previous][1] != pot
                and self._kinds[self._cloths[cloth]] != "fast")

    def _matches(self, dip, asked):
        """Tells whether a dip has all the asked traits."""
        cloth, pot = dip
        kind = self._cloths[cloth]
        return (asked.get("cloth", cloth) == cloth and asked.get("pot", pot) == pot
                and asked.get("kind", kind) == kind)

    def _moment(self, at):
        """Returns how many dips there are at a moment."""
        check_moment(at, len(self._dips))
        return len(self._dips) if at is None else at

    def _foreign_leaves(self, number):
        """Returns the dips of other cloths that left colour in the pot of a dip before it."""
        cloth, pot = self._dips[number]
        return [earlier for earlier in self.where(pot=pot)
                if earlier < number and self._dips[earlier][0] != cloth and self._has_leave(earlier)]
