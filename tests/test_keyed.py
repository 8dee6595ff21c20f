"""The call keyed: pairs by keys in every order, their first longest rising part, and what are no keys."""

import itertools
import random
import unittest

from helper import LIMIT, NAMES, ask, changed_in_each_place, flat, matching_cost, some_case, table, told


def first_longest_part(pairs):
    """By trying every part, the longest ones first; those whose pairs come first are tried first."""
    for length in range(len(pairs), 0, -1):
        for part in itertools.combinations(pairs, length):
            if all(one[1] < other[1] for one, other in zip(part, part[1:])):
                return list(part)
    return []


def pairs_by_keys(old_rows, new_rows, columns):
    pairs = []
    old_keys = [[row[old] for old, new in columns] for row in old_rows]
    new_keys = [[row[new] for old, new in columns] for row in new_rows]
    for old, new in itertools.product(range(len(old_rows)), range(len(new_rows))):
        others = old_keys[:old] + old_keys[old + 1:] + new_keys[:new] + new_keys[new + 1:]
        if old_keys[old] == new_keys[new] and old_keys[old] not in others:
            pairs.append((old, new))
    return pairs


def keyed_answer(old_rows, new_rows, columns, keys):
    pairs = pairs_by_keys(old_rows, new_rows, [pair for pair in columns if pair[0] in keys])
    pairs.sort()
    part = first_longest_part(pairs)
    cost = matching_cost(old_rows, new_rows, columns, part)
    return told(pairs) + [len(pairs) - len(part), cost] + told(part)


class AgainstTryingAll(unittest.TestCase):
    def test_every_order_of_pairs(self):
        for count in range(1, 7):
            orders = list(itertools.permutations(range(count)))
            old_rows = [[k] for k in range(count)]
            for start in range(0, len(orders), 20):
                part = orders[start:start + 20]
                tables = [[[k] for k in order] for order in part]
                calls = [(("tables", table(["k"], old_rows), table(["k"], rows)), ("keyed", [0])) for rows in tables]
                found = ask(*[call for both in calls for call in both])[1::2]
                self.assertEqual(found, [keyed_answer(old_rows, rows, [(0, 0)], [0]) for rows in tables])

    def test_twelve_rows_in_some_orders(self):
        chance = random.Random(9)
        old_rows = [[k, chance.choice(["v", "w"])] for k in range(12)]
        for k in range(20):
            new_rows = [[row[0], chance.choice(["v", "w"])] for row in chance.sample(old_rows, 12)]
            found = ask(
                ("tables", table(["k", "v"], old_rows), table(["k", "v"], new_rows)), ("keyed", [0]))[1]
            self.assertEqual(found, keyed_answer(old_rows, new_rows, [(0, 0), (1, 1)], [0]))

    def test_any_tables_and_all_their_keys(self):
        chance = random.Random(10)
        for k in range(200):
            old_rows, new_rows, columns, calls = some_case(chance, 6)
            matched = sorted(old for old, new in columns)
            choices = [
                list(keys) for length in range(1, len(matched) + 1)
                for keys in itertools.combinations(matched, length)]
            found = ask(*calls, *[("keyed", keys) for keys in choices])[2:]
            expected = [keyed_answer(old_rows, new_rows, columns, keys) for keys in choices]
            self.assertEqual(found, expected, calls)


class Parts(unittest.TestCase):
    def keyed(self, order):
        old = table(["k"], [[k] for k in range(len(order))])
        return ask(("tables", old, table(["k"], [[order.index(k)] for k in range(len(order))])), ("keyed", [0]))[1]

    def test_of_several_longest_ones_that_whose_pairs_come_first(self):
        self.assertEqual(self.keyed([1, 0]), told([(0, 1), (1, 0)]) + [1, 6] + told([(0, 1)]))
        self.assertEqual(
            self.keyed([2, 3, 0, 1]), told([(0, 2), (1, 3), (2, 0), (3, 1)]) + [2, 12] + told([(0, 2), (1, 3)]))
        self.assertEqual(
            self.keyed([1, 3, 0, 2]), told([(0, 1), (1, 3), (2, 0), (3, 2)]) + [2, 12] + told([(0, 1), (1, 3)]))

    def test_the_first_pair_is_left_out_where_no_longest_part_has_it(self):
        self.assertEqual(
            self.keyed([3, 0, 2, 1]), told([(0, 3), (1, 0), (2, 2), (3, 1)]) + [2, 12] + told([(1, 0), (2, 2)]))

    def test_backward(self):
        pairs = [(k, 11 - k) for k in range(12)]
        self.assertEqual(self.keyed(list(range(11, -1, -1))), told(pairs) + [11, 66] + told([(0, 11)]))

    def test_a_part_costs_with_its_pairs_cells(self):
        old = table(["k", "v"], [[1, "a"], [2, "b"], [3, "c"]])
        new = table(["k", "v"], [[1, "x"], [3, "y"], [2, "b"]])
        self.assertEqual(
            ask(("tables", old, new), ("keyed", [0]))[1],
            told([(0, 0), (1, 2), (2, 1)]) + [1, 7] + told([(0, 0), (1, 2)]))


class SameKey(unittest.TestCase):
    def test_rows_with_the_same_key_twice_in_one_table(self):
        once = table(["k"], [[1], [2], [3]])
        twice = table(["k"], [[3], [1], [2], [1]])
        self.assertEqual(
            ask(("tables", once, twice), ("keyed", [0]))[1], told([(1, 2), (2, 0)]) + [1, 15] + told([(1, 2)]))
        self.assertEqual(
            ask(("tables", twice, once), ("keyed", [0]))[1], told([(0, 2), (2, 1)]) + [1, 15] + told([(0, 2)]))

    def test_twice_in_both_tables_and_no_pair_at_all(self):
        twice = table(["k"], [[1], [1]])
        self.assertEqual(ask(("tables", twice, twice), ("keyed", [0]))[1], [0, 0, 12, 0])

    def test_an_empty_cell_is_a_key_like_others(self):
        old = table(["k"], [[None], [0], ["0"]])
        new = table(["k"], [["0"], [None], [0]])
        self.assertEqual(
            ask(("tables", old, new), ("keyed", [0]))[1],
            told([(0, 1), (1, 2), (2, 0)]) + [1, 6] + told([(0, 1), (1, 2)]))

    def test_all_that_are_matched_tell_apart_what_one_does_not(self):
        old = table(["a", "b", "c"], [[1, 1, 5], [1, 2, 6]])
        new = table(["a", "b", "d"], [[1, 1, None], [1, 2, 7]])
        found = ask(("tables", old, new), ("keyed", [0]), ("keyed", [1]), ("keyed", [0, 1]))
        both = told([(0, 0), (1, 1)])
        self.assertEqual(found[1:], [[0, 0, 12, 0], both + [0, 3] + both, both + [0, 3] + both])

    def test_keys_of_more_than_one_word_are_told_apart_cell_by_cell(self):
        old = table(["a", "b"], [["x", "yz"], [None, 1]])
        new = table(["a", "b"], [["xy", "z"], [1, None]])
        self.assertEqual(ask(("tables", old, new), ("keyed", [0, 1]))[1], [0, 0, 12, 0])


class Columns(unittest.TestCase):
    def test_columns_that_are_renamed_and_moved(self):
        old = table(["a", "b", "c"], [[1, 2, 3], [4, 5, 6]])
        new = table(["x", "y"], [[6, 5], [3, 2]])
        found = ask(
            ("tables", old, new), ("keyed", [0]), ("cols", flat([(2, 0), (1, 1)])), ("keyed", [1]), ("keyed", [1, 2]),
            ("keyed", [0]))
        keyed = told([(0, 1), (1, 0)]) + [1, 7] + told([(0, 1)])
        self.assertEqual(found[1:], [[-2], [9], keyed, keyed, [-2]])

    def test_keys_are_old_columns(self):
        old = table(["a", "b"], [[1, 2]])
        new = table(["b", "a"], [[9, 1]])
        found = ask(("tables", old, new), ("keyed", [0]), ("keyed", [1]))
        self.assertEqual(found[1:], [[1, 0, 0, 0, 1, 1, 0, 0], [0, 0, 6, 0]])

    def test_five_columns(self):
        full = table(NAMES, [[k // 8, k // 4, k // 2, "w", k % 2] for k in range(12)])
        straight = told([(k, k) for k in range(12)])
        found = ask(("tables", full, full), ("keyed", [0, 1, 2, 3, 4]), ("keyed", [2, 4]), ("keyed", [3]))
        self.assertEqual(found[1:], [straight + [0, 0] + straight] * 2 + [[0, 0, 72, 0]])

    def test_without_rows(self):
        none = table(["a"], [])
        full = table(["a"], [[k] for k in range(12)])
        for sides, cost in (((none, none), 0), ((none, full), 36), ((full, none), 36)):
            found = ask(("tables",) + sides, ("keyed", [0]), ("keyed", []), ("keyed", [1]))
            self.assertEqual(found[1:], [[0, 0, cost, 0], [-2], [-2]])


class NoKeys(unittest.TestCase):
    OLD = table(["a", "b", "c", "d"], [[1, 2, 3, 4]])
    NEW = table(["d", "x", "b", "a"], [[4, 3, 2, 1]])

    def assert_refused(self, numbers):
        found = ask(("tables", self.OLD, self.NEW), ("keyed", numbers), ("keyed", [0, 1, 3]))
        self.assertEqual(found[1:], [[-2], [1, 0, 0, 0, 2, 1, 0, 0]], numbers)

    def test_none_at_all(self):
        self.assert_refused([])

    def test_not_rising(self):
        for numbers in ([1, 0], [3, 1], [0, 3, 1], [3, 1, 0]):
            self.assert_refused(numbers)

    def test_one_twice(self):
        for numbers in ([0, 0], [0, 1, 1], [0, 0, 3], [1, 3, 1]):
            self.assert_refused(numbers)

    def test_not_matched(self):
        for numbers in ([2], [0, 2], [2, 3], [0, 1, 2, 3]):
            self.assert_refused(numbers)

    def test_not_there(self):
        for numbers in ([4], [-1], [0, 4], [-1, 0], [0, 1, 3, 4], [-4]):
            self.assert_refused(numbers)

    def test_far_out_in_each_place(self):
        for numbers in changed_in_each_place([0, 1, 3], (LIMIT, -LIMIT)):
            self.assert_refused(numbers)

    def test_lists_at_their_longest(self):
        self.assert_refused([0] * 10)
        self.assert_refused(list(range(10)))

    def test_where_no_column_is_matched(self):
        found = ask(("tables", self.OLD, self.NEW), ("cols", []), ("keyed", [0]), ("keyed", []))
        self.assertEqual(found[2:], [[-2], [-2]])


if __name__ == "__main__":
    unittest.main()
