"""The rows of a work: in which order its further dips are safe or clean."""

from tiredpots.chains import line_up
from tiredpots.errors import Known, RingOfWishes, Unknown
from tiredpots.further import with_dips
from tiredpots.paying import ask


class Plan:
    """A row that is as it should be, with the answers that show it."""

    def __init__(self, row, answers):
        self.row = row
        self.answers = answers


class Barred:
    """The rank row, with the first wish that does not hold in it and the answer that shows it."""

    def __init__(self, row, wish, answer):
        self.row = row
        self.wish = wish
        self.answer = answer


class Ring:
    """A ring of dips, which keeps every row from being clean."""

    def __init__(self, dips):
        self.dips = dips


def every_row(work):
    """Yields all rows of a work, by the places in the work of their cloths."""
    # A copy, so that the rows still to come are those of the work as it is now.
    queues = [(cloth, list(pots)) for cloth, pots in work]
    turns = [place for place, (_, pots) in enumerate(queues) for _ in pots]
    while turns is not None:
        yield _row_of(queues, turns)
        turns = _turns_after(turns)


def rank_row(work, wishes):
    """Returns the row in which each cloth is dipped only behind those that are to be darker."""
    pots_of = {}
    for cloth, pots in work:
        if cloth in pots_of:
            raise Known(cloth)
        pots_of[cloth] = pots
    inner = [(darker, lighter) for darker, lighter in wishes if darker in pots_of and lighter in pots_of]
    placed, ring = line_up(list(pots_of), inner)
    if ring:
        raise RingOfWishes(ring)
    return [(cloth, pot) for cloth in placed for pot in pots_of[cloth]]


def dark_row(book, work, wishes):
    """Returns a Plan with a row in which all wishes hold, or a Barred if there is no such row."""
    _check_work(book, work)
    for wish in wishes:
        _check_cloths(book, wish)
    row = rank_row(work, wishes)
    # Here more dips than the bound allows are refused.
    longer = with_dips(book, row)
    answers = []
    for darker, lighter in wishes:
        answer = ask(longer, longer.held(darker) - longer.held(lighter))
        if not answer.holds():
            return Barred(row, (darker, lighter), answer)
        answers.append(answer)
    return Plan(row, answers)


def clean_row(book, work, guarded):
    """Returns a Plan with a row that keeps guarded cloths clean, or a Ring if there is no such row."""
    _check_work(book, work)
    _check_cloths(book, guarded)
    # Any row will do here, since its dips have leaves as they have in every other row. More dips
    # than the bound allows are refused.
    longer = with_dips(book, [(cloth, pot) for cloth, pots in work for pot in pots])
    dips = list(longer)
    placed, ring = line_up(list(range(len(dips))), _musts(longer, len(book), guarded))
    if ring:
        return Ring([_name_of(dips, number) for number in ring])
    return Plan([dips[number] for number in placed if number >= len(book)], [])


def _row_of(queues, turns):
    """Returns the row in which the cloths at these places of the work have their turns."""
    done = [0 for _ in queues]
    row = []
    for place in turns:
        cloth, pots = queues[place]
        row.append((cloth, pots[done[place]]))
        done[place] = done[place] + 1
    return row


def _turns_after(turns):
    """Returns the next greater list of the same turns, or None if there is none."""
    rises = [at for at in range(len(turns) - 1) if turns[at] < turns[at + 1]]
    if not rises:
        return None
    at = rises[-1]
    rest = sorted(turns[at:])
    following = min([turn for turn in rest if turn > turns[at]])
    rest.remove(following)
    return [*turns[:at], following, *rest]


def _check_cloths(book, cloths):
    """Refuses the first cloth that the book does not have."""
    for cloth in cloths:
        book.kind_of(cloth)


def _check_work(book, work):
    """Refuses the first cloth or pot of a work that may not stand there."""
    own = book.pots()
    seen = []
    for cloth, pots in work:
        book.kind_of(cloth)
        if cloth in seen:
            raise Known(cloth)
        seen.append(cloth)
        for pot in pots:
            if pot not in own:
                raise Unknown(pot)


def _musts(longer, many, guarded):
    """Returns the pairs of numbers of dips of which the first must precede the second.

    The dips from the number `many` on are the further dips.
    """
    dips = list(longer)
    leaves = [number for word, number in longer.amounts() if word == "leave"]
    own = [(first, second) for second in range(len(dips)) for first in range(second)
           if dips[first][0] == dips[second][0]]
    known = [(first, second) for first in range(many) for second in range(many, len(dips))]
    clean = [(first, second) for first in range(many, len(dips)) for second in leaves
             if dips[first][0] in guarded and _meet(dips[first], dips[second])]
    return [*own, *known, *clean]


def _meet(dip, other):
    """Tells whether two dips are dips of different cloths in the same pot."""
    return dip[0] != other[0] and dip[1] == other[1]


def _name_of(dips, number):
    """Returns the tuple of the cloth of a dip and how many dips of that cloth are earlier."""
    cloth, _ = dips[number]
    return (cloth, len([earlier for earlier in range(number) if dips[earlier][0] == cloth]))
