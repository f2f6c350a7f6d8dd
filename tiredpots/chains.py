"""Chains of pairs, each of which begins where the one before it ends."""

from heapq import heappop, heappush


def steps_of(couples):
    """Returns a dict from the first of each pair to the list of what it is paired with."""
    steps = {}
    for first, second in couples:
        steps.setdefault(first, []).append(second)
    return steps


def walk(starts, steps):
    """Returns a dict from all that chains of steps reach to what stands before it.

    What fewer steps reach stands earlier in the dict, and nothing stands before a start.
    """
    before = {start: None for start in starts}
    layer = list(before)
    while layer:
        found = []
        # A copy, since what is found here becomes the layer itself.
        for here in list(layer):
            for there in steps.get(here, []):
                if there not in before:
                    before[there] = here
                    found.append(there)
        layer = found
    return before


def path_to(end, before):
    """Returns the chain, as a list, by which a walk came from a start to the end."""
    path = [end]
    while before[path[-1]] is not None:
        path.append(before[path[-1]])
    return path[::-1]


def line_up(things, couples):
    """Places the things so that the first of each pair stands ahead of the second one.

    The next one is always the first thing to which no pair leads from one that is not yet
    placed. Returns the placed things, and a ring of those that cannot be placed: a list in
    which each one and the next are a pair, and so are the last and the first one. The ring is
    empty if all things are placed.
    """
    steps = steps_of(couples)
    leading = {thing: 0 for thing in things}
    for _, second in couples:
        leading[second] = leading[second] + 1
    places = {thing: place for place, thing in enumerate(things)}
    free = [places[thing] for thing in things if leading[thing] == 0]
    placed = []
    while free:
        thing = things[heappop(free)]
        placed.append(thing)
        for there in steps.get(thing, []):
            leading[there] = leading[there] - 1
            if leading[there] == 0:
                heappush(free, places[there])
    stuck = {thing: True for thing in things if leading[thing] > 0}
    return placed, _ring_among(stuck, couples)


def _ring_among(stuck, couples):
    """Returns a ring of things to each of which a pair leads from another one of them."""
    if not stuck:
        return []
    # What stands behind a stuck thing is stuck as well.
    leader = {second: first for first, second in couples if first in stuck}
    here = list(stuck)[0]
    trail = {}
    while here not in trail:
        trail[here] = True
        here = leader[here]
    # The trail was walked against the pairs.
    back = list(trail)
    return back[back.index(here):][::-1]
