"""Transports: moving what some have to others that need it."""

from tiredpots.chains import path_to, steps_of, walk


class Transport:
    """Moves from givers to takers whatever they need, as far as that is possible.

    `supplies` and `demands` are dicts with what each giver has and each taker needs; `ways` is
    a dict from each giver to a list of the takers to which it may give.
    """

    def __init__(self, supplies, demands, ways):
        self._left = {giver: supplies[giver] for giver in supplies}
        self._need = {taker: demands[taker] for taker in demands}
        self._ways = [(giver, taker) for giver in ways for taker in ways[giver]]
        self._moved = {way: 0 for way in self._ways}
        path = self._path()
        while path:
            self._send(path)
            path = self._path()

    def moves(self):
        """Returns a list of the tuples (giver, taker, number) that were moved."""
        return [(giver, taker, self._moved[giver, taker]) for giver, taker in self._ways
                if self._moved[giver, taker] > 0]

    def short(self):
        """Returns takers that need more than all givers with a way to one of them have.

        Returns None if each taker got what it needs.
        """
        if all([number == 0 for number in self._need.values()]):
            return None
        reached = self._reached()
        return [taker for taker in self._need if taker not in reached]

    def _reached(self):
        """Returns a walk from what is left, where a taker leads to those who could take back."""
        back = [(taker, giver) for giver, taker in self._ways if self._moved[giver, taker] > 0]
        return walk([giver for giver in self._left if self._left[giver] > 0], steps_of([*self._ways, *back]))

    def _path(self):
        """Returns a path from what is left to a taker that still needs something, or an empty list."""
        before = self._reached()
        ends = [taker for taker in before if self._need.get(taker, 0) > 0]
        # Only with the shortest path each time is there a bound on the steps for numbers of any size.
        return path_to(ends[0], before) if ends else []

    def _send(self, path):
        """Moves as much as possible along a path of givers and takers in turn."""
        forth = list(zip(path[::2], path[1::2]))
        back = list(zip(path[2::2], path[1::2]))
        number = min([self._left[path[0]], self._need[path[-1]], *[self._moved[way] for way in back]])
        self._left[path[0]] = self._left[path[0]] - number
        self._need[path[-1]] = self._need[path[-1]] - number
        for way in forth:
            self._moved[way] = self._moved[way] + number
        for way in back:
            self._moved[way] = self._moved[way] - number
