"""The calls least, kth, cost and pair, held against trying every matching, and what is no pairs of rows."""

import itertools
import random
import unittest

from helper import (
    LIMIT, NAMES, ask, changed_in_each_place, flat, least_ones, line, pair_cost, some_case, table, told,
    weighed_case)


class AgainstTryingAll(unittest.TestCase):
    def test_least_and_each_by_its_place(self):
        chance = random.Random(1)
        for k in range(150):
            calls, matchings, costs = weighed_case(chance, 5)
            least = least_ones(matchings, costs)
            first = ask(*calls, ("least",))[2]
            self.assertEqual(first, [min(costs), len(least)] + told(least[0]))
            places = sorted(set(list(range(min(36, len(least)))) + [len(least) - 1]))
            found = ask(*calls, *[("kth", place) for place in places], ("kth", len(least)))[2:]
            self.assertEqual(found, [[1] + told(least[place]) for place in places] + [[0]])

    def test_cost_of_any_matching(self):
        chance = random.Random(2)
        for k in range(60):
            calls, matchings, costs = weighed_case(chance, 4)
            tried = chance.sample(range(len(matchings)), min(38, len(matchings)))
            found = ask(*calls, *[("cost", flat(matchings[place])) for place in tried])[2:]
            self.assertEqual(found, [[costs[place], costs[place] - min(costs)] for place in tried])

    def test_pair_for_every_two_rows(self):
        chance = random.Random(3)
        for k in range(60):
            old_rows, new_rows, columns, calls = some_case(chance, 6)
            both = list(itertools.product(range(len(old_rows)), range(len(new_rows))))
            found = ask(*calls, *[("pair", old, new) for old, new in both])[2:]
            expected = [[pair_cost(old_rows[old], new_rows[new], columns)] for old, new in both]
            self.assertEqual(found, expected)


class Cells(unittest.TestCase):
    def test_cells_of_matched_columns(self):
        values = [None, 0, 1, -1, 1000000, -1000000, "1", "a", "aa", "abcdefgh", "abcdefgi", " "]
        one = table(["k"], [[value] for value in values])
        for old in range(len(values)):
            found = ask(("tables", one, one), *[("pair", old, new) for new in range(len(values))])[1:]
            self.assertEqual(found, [[0 if old == new else 1] for new in range(len(values))])

    def test_cells_of_lone_columns_that_are_not_empty(self):
        old = table(["a", "b"], [[0, "x"], [None, "x"], [None, None]])
        new = table(["b", "c", "d"], [["x", 0, " "], ["y", None, 5], [None, None, None]])
        found = ask(
            ("tables", old, new), ("pair", 0, 0), ("pair", 0, 1), ("pair", 1, 2), ("pair", 2, 2),
            ("pair", 2, 0))
        self.assertEqual(found[1:], [[3], [3], [1], [0], [3]])

    def test_a_pair_costs_ten_at_most(self):
        old = table(["a", "b", "c", "d", "e"], [[1] * 5])
        new = table(["v", "w", "x", "y", "z"], [[1] * 5])
        found = ask(("tables", old, new), ("pair", 0, 0), ("least",), ("cost", [0, 0]))
        self.assertEqual(found[1:], [[10], [6, 1, 0], [10, 4]])


class WithoutRows(unittest.TestCase):
    def test_on_both_sides(self):
        none = table(["a"], [])
        found = ask(
            ("tables", none, none), ("least",), ("kth", 0), ("kth", 1), ("cost", []), ("cost", [0, 0]),
            ("pair", 0, 0))
        self.assertEqual(found, [[0, 0, 1], [0, 1, 0], [1, 0], [0], [0, 0], [-3], [-4]])

    def test_on_one_side(self):
        none = table(["a"], [])
        full = table(["a"], [[1]] * 12)
        for sides in ((none, full), (full, none)):
            found = ask(("tables",) + sides, ("least",), ("kth", 0), ("kth", 1), ("cost", []), ("cost", [0, 0]))
            self.assertEqual(found[1:], [[36, 1, 0], [1, 0], [0], [36, 0], [-3]])


class TwelveRows(unittest.TestCase):
    # In lone columns with three cells a side that aren't empty, a pair costs
    # what two lone rows cost: every matching is least, C(24, 12) in all.
    OLD = table(["a", "b", "c"], [[1, 1, 1]] * 12)
    NEW = table(["x", "y", "z"], [[1, 1, 1]] * 12)
    COUNT = 2704156

    def test_every_matching_is_least(self):
        found = ask(("tables", self.OLD, self.NEW), ("least",), ("cost", []), ("cost", flat([(3, 9)])))
        straight = [(k, k) for k in range(12)]
        self.assertEqual(found[1:], [[72, self.COUNT] + told(straight), [72, 0], [72, 0]])

    def test_last_place_and_the_one_behind_it(self):
        found = ask(
            ("tables", self.OLD, self.NEW), ("kth", self.COUNT - 1), ("kth", self.COUNT - 2),
            ("kth", self.COUNT), ("kth", LIMIT), ("kth", 1))
        without_last_but_one = [(k, k) for k in range(10)] + [(10, 10)]
        self.assertEqual(
            found[1:], [[1, 0], [1, 1, 11, 11], [0], [0], [1] + told(without_last_but_one)])

    def test_only_one_that_is_least(self):
        full = table(NAMES, [[k, "wordword", -k, None, "x"] for k in range(12)])
        straight = [(k, k) for k in range(12)]
        found = ask(
            ("tables", full, full), ("least",), ("kth", 0), ("kth", 1), ("cost", flat(straight)),
            ("cost", flat([(k, k + 1) for k in range(11)])))
        self.assertEqual(
            found[1:], [[0, 1] + told(straight), [1] + told(straight), [0], [0, 0], [28, 28]])

    def test_rows_put_in_and_taken_out(self):
        old = table(["a", "b", "c"], [[k, k, k] for k in range(12)])
        new = table(["a", "b", "c"], [[k, k, k] for k in (0, 1, 50, 2, 3, 5, 6, 7, 8, 9, 10, 11)])
        pairs = [(0, 0), (1, 1), (2, 3), (3, 4)] + [(k, k) for k in range(5, 12)]
        self.assertEqual(ask(("tables", old, new), ("least",))[1], [6, 1] + told(pairs))

    def test_a_line_of_forty_calls_on_full_tables(self):
        old = table(["aaaaaaa" + sign for sign in "abcde"], [["wordword"] * 5] * 12)
        new = table(["bbbbbbb" + sign for sign in "abcde"], [["wordword"] * 5] * 12)
        straight = [(k, k) for k in range(12)]
        calls = [("tables", old, old), ("tables", old, new)] * 6 + [("cols", flat(straight[:5]))]
        calls += [("least",), ("kth", 0), ("cost", flat(straight))] * 9
        self.assertEqual(len(calls), 40)
        self.assertLessEqual(len(line(*calls)), 17000)
        found = ask(*calls)
        self.assertEqual(found[:13], [[12, 12, 5], [12, 12, 0]] * 6 + [[10]])
        self.assertEqual(found[13:], [[0, 1] + told(straight), [1] + told(straight), [0, 0]] * 9)

    def test_a_line_of_forty_kinds_of_calls_on_full_tables(self):
        full = table(NAMES, [[None, 1, "w", None, k % 3] for k in range(12)])
        straight = [(k, k) for k in range(12)]
        calls = [("tables", full, full), ("cols", flat(straight[:5]))]
        calls += [("least",), ("kth", 0), ("cost", flat(straight)), ("pair", 11, 11)] * 9
        calls += [("cols", []), ("least",)]
        self.assertEqual(len(calls), 40)
        found = ask(*calls)
        answered = [[0, 1] + told(straight), [1] + told(straight), [0, 0], [0]]
        self.assertEqual(found[:-2], [[12, 12, 5], [0]] + answered * 9)
        self.assertEqual(found[-2:], [[40], [72, 2704156] + told(straight)])


class Places(unittest.TestCase):
    def test_order_of_the_least_ones(self):
        old = table(["k"], [[1], [1]])
        new = table(["k"], [[1]])
        found = ask(("tables", old, new), ("least",), ("kth", 0), ("kth", 1), ("kth", 2))
        self.assertEqual(found[1:], [[3, 2, 1, 0, 0], [1, 1, 0, 0], [1, 1, 1, 0], [0]])
        found = ask(("tables", new, old), ("least",), ("kth", 0), ("kth", 1), ("kth", 2))
        self.assertEqual(found[1:], [[3, 2, 1, 0, 0], [1, 1, 0, 0], [1, 1, 0, 1], [0]])

    def test_none_left_comes_behind(self):
        old = table(["a", "b", "c"], [[1, 1, 1]])
        new = table(["x", "y", "z"], [[1, 1, 1]])
        found = ask(("tables", old, new), ("least",), ("kth", 0), ("kth", 1), ("kth", 2))
        self.assertEqual(found[1:], [[6, 2, 1, 0, 0], [1, 1, 0, 0], [1, 0], [0]])

    def test_places_below_nothing(self):
        one = table(["k"], [[1]])
        found = ask(("tables", one, one), ("kth", -1), ("kth", -LIMIT), ("kth", LIMIT), ("kth", 0))
        self.assertEqual(found[1:], [[-4], [-4], [0], [1, 1, 0, 0]])


class WrongRows(unittest.TestCase):
    OLD = table(["k"], [[1], [2], [3], [4]])
    NEW = table(["k"], [[1], [2], [3]])

    def assert_refused(self, numbers):
        found = ask(("tables", self.OLD, self.NEW), ("cost", numbers), ("rank", numbers), ("least",))
        self.assertEqual(found[1:], [[-3], [-3], [3, 1, 3, 0, 0, 1, 1, 2, 2]], numbers)

    def test_pairs_that_are_not_whole(self):
        for numbers in ([0], [0, 0, 1], [0, 0, 1, 1, 2], [0] * 29):
            self.assert_refused(numbers)

    def test_pairs_that_do_not_rise(self):
        for pairs in ([(0, 0), (0, 1)], [(0, 0), (1, 0)], [(1, 0), (0, 1)], [(0, 1), (1, 0)],
                      [(0, 0), (1, 2), (2, 1)], [(0, 0), (2, 1), (1, 2)], [(1, 1), (1, 1)]):
            self.assert_refused(flat(pairs))

    def test_rows_that_are_not_there(self):
        for pairs in ([(4, 0)], [(0, 3)], [(-1, 0)], [(0, -1)], [(0, 0), (4, 1)], [(0, 0), (1, 3)]):
            self.assert_refused(flat(pairs))

    def test_far_out_in_each_place(self):
        whole = flat([(0, 0), (2, 1), (3, 2)])
        for numbers in changed_in_each_place(whole, (LIMIT, -LIMIT)):
            self.assert_refused(numbers)

    def test_lists_at_their_longest(self):
        self.assert_refused([0] * 30)
        self.assert_refused(flat([(k, k) for k in range(15)]))

    def test_pair_of_rows_that_are_not_there(self):
        wrong = [(4, 0), (0, 3), (-1, 0), (0, -1), (LIMIT, 0), (0, LIMIT), (-LIMIT, 0), (0, -LIMIT), (4, 3)]
        found = ask(("tables", self.OLD, self.NEW), *[("pair",) + both for both in wrong], ("least",))
        self.assertEqual(found[1:], [[-4]] * len(wrong) + [[3, 1, 3, 0, 0, 1, 1, 2, 2]])

    def test_pair_at_the_last_rows(self):
        self.assertEqual(ask(("tables", self.OLD, self.NEW), ("pair", 3, 2))[1], [1])


if __name__ == "__main__":
    unittest.main()
