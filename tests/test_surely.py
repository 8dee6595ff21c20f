"""The calls surely, maybe and rank, held against trying every matching."""

import random
import unittest

from helper import NAMES, ask, flat, least_ones, table, told, weighed_case

STRAIGHT = [(k, k) for k in range(12)]


class AgainstTryingAll(unittest.TestCase):
    def test_pairs_in_all_and_in_some(self):
        chance = random.Random(4)
        for k in range(200):
            calls, matchings, costs = weighed_case(chance, 5)
            least = least_ones(matchings, costs)
            some = sorted({pair for pairs in least for pair in pairs})
            every = [pair for pair in some if all(pair in pairs for pairs in least)]
            self.assertEqual(ask(*calls, ("surely",), ("maybe",))[2:], [told(every), told(some)])

    def test_rank_of_any_matching(self):
        chance = random.Random(5)
        for k in range(100):
            calls, matchings, costs = weighed_case(chance, 4)
            least = least_ones(matchings, costs)
            tried = chance.sample(least, min(19, len(least)))
            tried += chance.sample(matchings, min(19, len(matchings)))
            found = ask(*calls, *[("rank", flat(pairs)) for pairs in tried])[2:]
            expected = [[1, least.index(pairs)] if pairs in least else [0] for pairs in tried]
            self.assertEqual(found, expected)

    def test_rank_of_every_least_matching(self):
        one = table(["k"], [[1], [1], [1]])
        four = table(["k"], [[1], [1], [1], [1]])
        for sides, pairs in (((one, four), [(0, 0), (1, 1), (2, 2)]), ((four, one), [(0, 0), (1, 1), (2, 2)])):
            found = ask(("tables",) + sides, ("least",), *[("kth", place) for place in range(4)])
            self.assertEqual(found[1], [3, 4] + told(pairs))
            ranks = ask(("tables",) + sides, *[("rank", answer[2:]) for answer in found[2:]])[1:]
            self.assertEqual(ranks, [[1, 0], [1, 1], [1, 2], [1, 3]])


class Surely(unittest.TestCase):
    def test_a_row_that_came_twice(self):
        old = table(["k"], [[1], [2], [3]])
        new = table(["k"], [[1], [2], [2], [3]])
        found = ask(("tables", old, new), ("least",), ("surely",), ("maybe",))
        self.assertEqual(found[1], [3, 2, 3, 0, 0, 1, 1, 2, 3])
        self.assertEqual(found[2:], [told([(0, 0), (2, 3)]), told([(0, 0), (1, 1), (1, 2), (2, 3)])])

    def test_none_is_in_all(self):
        old = table(["k"], [[1], [1]])
        new = table(["k"], [[1]])
        self.assertEqual(ask(("tables", old, new), ("surely",), ("maybe",))[1:], [[0], [2, 0, 0, 1, 0]])
        self.assertEqual(ask(("tables", new, old), ("surely",), ("maybe",))[1:], [[0], [2, 0, 0, 0, 1]])

    def test_none_is_in_any(self):
        old = table(["a", "b", "c", "d"], [[1] * 4] * 3)
        new = table(["v", "w", "x", "y"], [[1] * 4] * 2)
        found = ask(("tables", old, new), ("least",), ("surely",), ("maybe",), ("rank", []), ("rank", [0, 0]))
        self.assertEqual(found[1:], [[15, 1, 0], [0], [0], [1, 0], [0]])

    def test_by_old_rows_then_by_new_ones(self):
        # A pair costs what its rows cost when they're lone: every matching is least.
        old = table(["a", "b", "c"], [[1, 1, 1]] * 2)
        new = table(["x", "y", "z"], [[1, 1, 1]] * 3)
        found = ask(("tables", old, new), ("surely",), ("maybe",))
        self.assertEqual(found[1:], [[0], told([(0, 0), (0, 1), (0, 2), (1, 0), (1, 1), (1, 2)])])

    def test_with_the_columns_as_they_are_matched(self):
        old = table(["a", "b", "c"], [[1, 2, 7], [3, 4, 8]])
        new = table(["a", "b", "c"], [[4, 3, 8], [2, 1, 7]])
        asked = [("surely",), ("maybe",), ("rank", [0, 0, 1, 1]), ("rank", [0, 1]), ("rank", [1, 0]), ("rank", [0, 0])]
        found = ask(("tables", old, new), *asked, ("cols", flat([(1, 0), (0, 1), (2, 2)])), *asked)
        straight = told([(0, 0), (1, 1)])
        self.assertEqual(found[1:7], [straight, straight, [1, 0], [0], [0], [0]])
        every = told([(0, 0), (0, 1), (1, 0), (1, 1)])
        self.assertEqual(found[7:], [[5], [0], every, [1, 0], [1, 1], [1, 2], [0]])


class WithoutRows(unittest.TestCase):
    def test_on_one_side_and_on_both(self):
        none = table(["a"], [])
        full = table(["a"], [[1]] * 12)
        for sides in ((none, none), (none, full), (full, none)):
            found = ask(("tables",) + sides, ("surely",), ("maybe",), ("rank", []), ("rank", [0, 0]))
            self.assertEqual(found[1:], [[0], [0], [1, 0], [-3]])


class TwelveRows(unittest.TestCase):
    OLD = table(["a", "b", "c"], [[1, 1, 1]] * 12)
    NEW = table(["x", "y", "z"], [[1, 1, 1]] * 12)
    COUNT = 2704156

    def test_where_every_matching_is_least(self):
        every = [(old, new) for old in range(12) for new in range(12)]
        found = ask(("tables", self.OLD, self.NEW), ("surely",), ("maybe",))
        self.assertEqual(found[1:], [[0], told(every)])

    def test_where_one_alone_is_least(self):
        full = table(NAMES, [[k, "wordword", -k, None, "x"] for k in range(12)])
        found = ask(("tables", full, full), ("surely",), ("maybe",), ("rank", flat(STRAIGHT)), ("rank", []))
        self.assertEqual(found[1:], [told(STRAIGHT), told(STRAIGHT), [1, 0], [0]])

    def test_first_and_last_rank(self):
        found = ask(
            ("tables", self.OLD, self.NEW), ("rank", flat(STRAIGHT)), ("rank", []), ("rank", [11, 11]),
            ("rank", [11, 10]), ("rank", flat(STRAIGHT[:11])))
        last = self.COUNT - 1
        self.assertEqual(found[1:], [[1, 0], [1, last], [1, last - 1], [1, last - 2], [1, 1]])

    def test_rank_and_kth_go_together(self):
        chance = random.Random(6)
        many = table(["a", "b", "c"], [[1, None, 2]] * 7 + [[3, 4, 5]] * 5)
        fewer = table(["a", "b", "c"], [[1, None, 2]] * 5 + [[3, 4, 5]] * 4)
        for sides in ((self.OLD, self.NEW), (many, fewer), (fewer, many), (many, self.OLD)):
            count = ask(("tables",) + sides, ("least",))[1][1]
            places = [0, count - 1] + [chance.randrange(count) for k in range(37)]
            found = ask(("tables",) + sides, *[("kth", place) for place in places])[1:]
            ranks = ask(("tables",) + sides, *[("rank", answer[2:]) for answer in found])[1:]
            self.assertEqual(ranks, [[1, place] for place in places])


if __name__ == "__main__":
    unittest.main()
