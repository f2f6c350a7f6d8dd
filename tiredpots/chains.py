"""Chains of pairs, each of which begins where the one before it ends."""


def steps_of(couples):
    """Returns a dict from the first of each pair to the list of what it is paired with."""
    steps = {}
    for first, second in couples:
        steps.setdefault(first, []).append(second)
    return steps


def walk(start, steps):
    """Returns a dict from all that chains of steps reach from the start to what stands before it."""
    before = {start: None}
    waiting = [start]
    while waiting:
        here = waiting.pop()
        for there in steps.get(here, []):
            if there not in before:
                before[there] = here
                waiting.append(there)
    return before
