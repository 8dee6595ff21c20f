"""The call cols: what columns cost, what is no pairs of columns, and that they hold."""

import itertools
import unittest

from helper import LIMIT, ask, changed_in_each_place, flat, longest_rising, table

FOUR = table(["a", "b", "c", "d"], [])
FIVE = table(["a", "b", "c", "d", "e"], [])


def cols_answer(old, new, numbers):
    return ask(("tables", old, new), ("cols", numbers))[1]


def all_column_pairs(old_count, new_count):
    found = []
    for length in range(min(old_count, new_count) + 1):
        for news in itertools.combinations(range(new_count), length):
            for olds in itertools.permutations(range(old_count), length):
                found.append(list(zip(olds, news)))
    return found


class Costs(unittest.TestCase):
    def test_all_by_name_cost_nothing(self):
        self.assertEqual(cols_answer(FIVE, FIVE, flat([(k, k) for k in range(5)])), [0])

    def test_none_matched(self):
        self.assertEqual(cols_answer(FOUR, FIVE, []), [36])
        self.assertEqual(cols_answer(table(["a"], []), table(["a"], []), []), [8])

    def test_unlike_names(self):
        self.assertEqual(cols_answer(table(["a"], []), table(["b"], []), [0, 0]), [2])
        self.assertEqual(cols_answer(table(["a"], []), table(["aa"], []), [0, 0]), [2])

    def test_columns_moved(self):
        other = table(["e", "d", "c", "b", "a"], [])
        self.assertEqual(cols_answer(FIVE, other, flat([(4 - k, k) for k in range(5)])), [4])
        swapped = table(["b", "a", "d", "c", "e"], [])
        self.assertEqual(cols_answer(FIVE, swapped, flat([(1, 0), (0, 1), (3, 2), (2, 3), (4, 4)])), [2])
        turned = table(["e", "a", "b", "c", "d"], [])
        self.assertEqual(cols_answer(FIVE, turned, flat([(4, 0), (0, 1), (1, 2), (2, 3), (3, 4)])), [1])

    def test_a_rising_part_may_leave_out_numbers(self):
        new = table(["a", "e"], [])
        self.assertEqual(cols_answer(FIVE, new, flat([(0, 0), (4, 1)])), [12])

    def test_every_way_to_match_columns(self):
        old_names = ["a", "b", "c", "d"]
        new_names = ["b", "x", "a", "d", "y"]
        old = table(old_names, [])
        new = table(new_names, [])
        ways = all_column_pairs(4, 5)
        for start in range(0, len(ways), 39):
            part = ways[start:start + 39]
            found = ask(("tables", old, new), *[("cols", flat(pairs)) for pairs in part])[1:]
            for pairs, answer in zip(part, found):
                cost = sum(2 for one, other in pairs if old_names[one] != new_names[other])
                cost += len(pairs) - longest_rising([one for one, other in pairs])
                cost += 4 * (4 + 5 - 2 * len(pairs))
                self.assertEqual(answer, [cost], pairs)


class NoPairs(unittest.TestCase):
    def assert_refused(self, numbers):
        self.assertEqual(cols_answer(FOUR, FIVE, numbers), [-2], numbers)

    def test_not_whole(self):
        for numbers in ([0], [0, 0, 1], [0, 0, 1, 1, 2], [0] * 19):
            self.assert_refused(numbers)

    def test_new_ones_that_do_not_rise(self):
        for pairs in ([(0, 1), (1, 0)], [(0, 0), (1, 0)], [(2, 2), (1, 3), (0, 1)]):
            self.assert_refused(flat(pairs))

    def test_an_old_one_twice(self):
        for pairs in ([(0, 0), (0, 1)], [(1, 0), (2, 1), (1, 2)], [(3, 0), (2, 2), (1, 3), (3, 4)]):
            self.assert_refused(flat(pairs))

    def test_columns_that_are_not_there(self):
        for pairs in ([(4, 0)], [(0, 5)], [(-1, 0)], [(0, -1)], [(0, 0), (4, 1)], [(0, 0), (1, 5)]):
            self.assert_refused(flat(pairs))

    def test_far_out_in_each_place(self):
        whole = flat([(1, 0), (0, 2), (3, 4)])
        for numbers in changed_in_each_place(whole, (LIMIT, -LIMIT)):
            self.assert_refused(numbers)

    def test_lists_at_their_longest(self):
        self.assert_refused([0] * 20)
        self.assert_refused(flat([(k, k) for k in range(10)]))

    def test_a_refusal_changes_nothing(self):
        old = table(["a", "b"], [[1, 2]])
        new = table(["a", "b"], [[2, 1]])
        found = ask(
            ("tables", old, new), ("cols", [0, 1]), ("least",), ("pair", 0, 0), ("cols", [0, 0, 0, 1]),
            ("cols", [1, 0, 0]), ("cols", [2, 0]), ("least",), ("pair", 0, 0))
        self.assertEqual(found[1:], [[10], [2, 1, 1, 0, 0], [2], [-2], [-2], [-2], [2, 1, 1, 0, 0], [2]])


class Hold(unittest.TestCase):
    def test_rows_are_weighed_with_the_columns_so_matched(self):
        old = table(["a", "b"], [[1, 2], [3, None]])
        new = table(["a", "b"], [[2, 1], [None, 3]])
        found = ask(
            ("tables", old, new), ("least",), ("cols", [1, 0, 0, 1]), ("least",), ("cols", []), ("least",),
            ("pair", 0, 0), ("pair", 1, 1))
        expected = [[2, 2, 2], [4, 1, 2, 0, 0, 1, 1], [5], [0, 1, 2, 0, 0, 1, 1], [16]]
        self.assertEqual(found, expected + [[6, 1, 2, 0, 0, 1, 1], [4], [2]])


if __name__ == "__main__":
    unittest.main()
