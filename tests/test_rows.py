import inspect
import itertools
import random
import unittest

from samples import ROOMS, refused
from tiredpots.errors import Known, RingOfWishes
from tiredpots.rows import every_row, rank_row


def rows_by_words(work):
    """All rows of a small work, sorted by the places of their cloths."""
    turns = [place for place, (_, pots) in enumerate(work) for _ in pots]
    found = []
    for some in sorted(set(itertools.permutations(turns))):
        left = {place: list(pots) for place, (_, pots) in enumerate(work)}
        found.append([(work[place][0], left[place].pop(0)) for place in some])
    return found


def ranked_by_words(work, wishes):
    """The rank row by the words of point 19, or None if no cloth can be placed."""
    waiting, row = [cloth for cloth, _ in work], []
    while waiting:
        free = [cloth for cloth in waiting
                if not any(lighter == cloth and darker in waiting for darker, lighter in wishes)]
        if not free:
            return None
        row += [(free[0], pot) for pot in dict(work)[free[0]]]
        waiting.remove(free[0])
    return row


def random_work(chance, cloths, pots, most):
    """A work with at most so many dips of each cloth."""
    return [(cloth, [chance.choice(pots) for _ in range(chance.randint(0, most))]) for cloth in cloths]


class EveryRowTests(unittest.TestCase):
    def test_no_further_dips(self):
        for work in [[], [("cap", [])], [("cap", []), ("hat", []), ("bow", [])]]:
            self.assertEqual([[]], list(every_row(work)))

    def test_one_cloth(self):
        self.assertEqual([[("cap", "ash"), ("cap", "elm"), ("cap", "ash")]],
                         list(every_row([("hat", []), ("cap", ["ash", "elm", "ash"])])))

    def test_two_cloths(self):
        self.assertEqual([
            [("hat", "b"), ("hat", "a"), ("cap", "c")],
            [("hat", "b"), ("cap", "c"), ("hat", "a")],
            [("cap", "c"), ("hat", "b"), ("hat", "a")],
        ], list(every_row([("hat", ["b", "a"]), ("cap", ["c"])])))

    def test_small_works(self):
        for seed in range(60):
            chance = random.Random(seed)
            many = chance.randint(0, 4)
            work = random_work(chance, chance.sample(ROOMS, many), ["ash", "elm"], 7 // max(many, 1))
            given = [(cloth, list(pots)) for cloth, pots in work]
            self.assertEqual(rows_by_words(work), list(every_row(work)))
            self.assertEqual(given, work)

    def test_eight_cloths(self):
        work = [(room, ["ash"] if room in "bcdfgh" else []) for room in ROOMS]
        self.assertEqual(rows_by_words(work), list(every_row(work)))

    def test_any_strings(self):
        work = [("", ["  ", ""]), ("Not a name!", ["\n"])]
        self.assertEqual(rows_by_words(work), list(every_row(work)))

    def test_it_is_a_generator(self):
        self.assertTrue(inspect.isgeneratorfunction(every_row))

    def test_a_row_is_built_when_it_is_asked_for(self):
        work = [(room, ["ash", "elm", "oak"]) for room in ROOMS]
        rows = every_row(work)
        self.assertEqual([(room, pot) for room in ROOMS for pot in ["ash", "elm", "oak"]], next(rows))
        second = next(rows)
        self.assertEqual([("g", "oak"), ("h", "ash")], next(every_row(work))[20:22])
        self.assertEqual([("g", "elm"), ("h", "ash"), ("g", "oak")], second[19:22])
        seen = [next(rows) for _ in range(1000)]
        self.assertEqual(1000, len({tuple(row) for row in seen}))

    def test_rows_are_new_lists(self):
        work = [("hat", ["b", "a"]), ("cap", ["c"])]
        expected = rows_by_words(work)
        found = []
        for row in every_row(work):
            found.append(list(row))
            row.reverse()
            row.append(("x", "y"))
            row[0] = None
        self.assertEqual(expected, found)
        self.assertEqual([("hat", ["b", "a"]), ("cap", ["c"])], work)
        kept = list(every_row(work))
        self.assertEqual(len(kept), len({id(row) for row in kept}))

    def test_a_work_that_changes_while_rows_are_still_to_come(self):
        work = [("hat", ["b", "a"]), ("cap", ["c"])]
        expected = rows_by_words(work)
        rows = every_row(work)
        first = next(rows)
        work[0][1].clear()
        work.clear()
        self.assertEqual(expected, [first, *rows])


class RankRowTests(unittest.TestCase):
    def check_ring(self, work, wishes, ring):
        self.assertIs(list, type(ring))
        self.assertGreater(len(ring), 0)
        self.assertEqual(len(ring), len(set(ring)))
        self.assertTrue(set(ring) <= {cloth for cloth, _ in work})
        self.assertTrue(set(zip(ring, [*ring[1:], ring[0]])) <= set(wishes))

    def check(self, work, wishes):
        """Checks the rank row by the words of the document, and returns it, or None."""
        given = [(cloth, list(pots)) for cloth, pots in work], list(wishes)
        expected = ranked_by_words(work, wishes)
        if expected is None:
            with self.assertRaises(RingOfWishes) as caught:
                rank_row(work, wishes)
            self.check_ring(work, wishes, caught.exception.thing)
        else:
            self.assertEqual(expected, rank_row(work, wishes))
        self.assertEqual(given, (work, wishes))
        return expected

    def test_random_works(self):
        found = []
        for seed in range(400):
            chance = random.Random(seed)
            cloths = chance.sample(ROOMS, chance.randint(0, 8))
            work = random_work(chance, cloths, ["ash", "elm"], 2)
            wishes = [(chance.choice(ROOMS), chance.choice(ROOMS)) for _ in range(chance.randint(0, 7))]
            found.append(self.check(work, wishes))
        self.assertGreater(found.count(None), 50)
        self.assertGreater(len(found) - found.count(None), 50)

    def test_without_wishes(self):
        self.assertEqual([], rank_row([], []))
        self.assertEqual([], rank_row([], [("cap", "hat"), ("cap", "cap")]))
        self.assertEqual([("hat", "b"), ("hat", "a"), ("cap", "c")],
                         rank_row([("hat", ["b", "a"]), ("bow", []), ("cap", ["c"])], []))

    def test_the_first_free_cloth_is_next(self):
        work = [("a", ["p"]), ("b", ["p"]), ("c", ["p"]), ("d", ["p"])]
        for wishes, order in [([("c", "a")], "bcad"), ([("d", "a")], "bcda"), ([("b", "a"), ("d", "c")], "badc"),
                              ([("d", "c"), ("c", "b"), ("b", "a")], "dcba"), ([("a", "d"), ("d", "b")], "acdb"),
                              ([("c", "a"), ("c", "a")], "bcad"), ([("c", "b"), ("d", "b"), ("b", "a")], "cdba")]:
            self.assertEqual([(cloth, "p") for cloth in order], self.check(work, wishes))

    def test_a_cloth_without_dips_is_placed_too(self):
        work = [("a", ["p"]), ("b", []), ("c", ["q"])]
        self.assertEqual([("c", "q"), ("a", "p")], self.check(work, [("b", "a"), ("c", "b")]))
        self.assertIsNone(self.check(work, [("b", "a"), ("a", "b")]))
        self.assertIsNone(self.check(work, [("b", "b")]))

    def test_wishes_with_cloths_outside_of_the_work(self):
        work = [("a", ["p"]), ("b", ["q"])]
        for wishes in [[("b", "x"), ("x", "a")], [("x", "a")], [("x", "x")], [("x", "a"), ("a", "x")]]:
            self.assertEqual([("a", "p"), ("b", "q")], self.check(work, wishes))

    def test_rings(self):
        work = [(cloth, ["p"]) for cloth in "abcdef"]
        for ring in ["a", "d", "f", "ab", "ba", "ce", "abc", "cab", "fedcb", "abcdef"]:
            wishes = list(zip(ring, ring[1:] + ring[0]))
            for more in [[], [("x", "x")], [("a", "f")], [("f", "f"), ("b", "a")]]:
                self.assertIsNone(self.check(work, more + wishes))
            self.assertIsNotNone(self.check(work, wishes[1:]))
        with self.assertRaises(RingOfWishes) as caught:
            rank_row(work, [("e", "e")])
        self.assertEqual(["e"], caught.exception.thing)

    def test_a_ring_behind_and_ahead_of_other_cloths(self):
        work = [(cloth, ["p"]) for cloth in "abcdef"]
        self.assertIsNone(self.check(work, [("c", "d"), ("d", "c"), ("d", "a"), ("a", "b"), ("e", "c"), ("f", "e")]))

    def test_a_cloth_told_twice(self):
        work = [("a", ["p"]), ("b", []), ("b", ["p"]), ("a", [])]
        refused(self, Known, "b", rank_row, work, [])
        refused(self, Known, "b", rank_row, work, [("a", "a"), ("b", "b")])
        refused(self, Known, "", rank_row, [("", []), ("", [])], [])

    def test_any_strings(self):
        work = [("", ["A B"]), ("Not a name!", ["", "\n"]), ("a" * 50, ["~"])]
        self.assertIsNotNone(self.check(work, [("Not a name!", ""), ("a" * 50, "Not a name!")]))
        self.assertIsNone(self.check(work, [("", "")]))

    def test_many_cloths(self):
        for many in [20, 60, 400]:
            names = [str(number) for number in range(many)]
            work = [(name, ["p", "q"][:number % 3]) for number, name in enumerate(names)]
            down = list(zip(names[1:], names))
            self.assertIsNotNone(self.check(work, down))
            self.assertIsNone(self.check(work, [*down, (names[0], names[-1])]))
            self.assertIsNone(self.check(work, [*down, (names[0], names[many // 2])]))

    def test_many_cloths_with_all_wishes(self):
        names = [str(number) for number in range(24)]
        work = [(name, ["p"]) for name in names]
        wishes = [(more, less) for more in names for less in names if int(more) > int(less)]
        self.assertEqual([(name, "p") for name in names[::-1]], self.check(work, wishes))
        self.assertIsNone(self.check(work, [*wishes, ("3", "17")]))

    def test_the_row_is_a_new_list(self):
        work = [("hat", ["b", "a"])]
        row = rank_row(work, [])
        row.clear()
        self.assertEqual([("hat", "b"), ("hat", "a")], rank_row(work, []))
        self.assertEqual([("hat", ["b", "a"])], work)


if __name__ == "__main__":
    unittest.main()
