"""The call free, held against trying every free matching."""

import itertools
import random
import unittest

from helper import ask, flat, longest_rising, matching_cost, some_case, table, told


def all_free_matchings(old_count, new_count):
    """In the order in which the first one is looked for: the lesser new row, and a lone row behind all."""
    found = []
    choices = list(range(new_count)) + [new_count]
    for news in itertools.product(choices, repeat=old_count):
        pairs = [(old, new) for old, new in enumerate(news) if new < new_count]
        if len({new for old, new in pairs}) == len(pairs):
            found.append(pairs)
    return found


def free_answer(old_rows, new_rows, columns):
    found = all_free_matchings(len(old_rows), len(new_rows))
    costs = [matching_cost(old_rows, new_rows, columns, pairs) for pairs in found]
    first = found[costs.index(min(costs))]
    return [min(costs), len(first) - longest_rising([new for old, new in first])] + told(first)


class AgainstTryingAll(unittest.TestCase):
    def test_any_tables(self):
        chance = random.Random(7)
        for k in range(200):
            old_rows, new_rows, columns, calls = some_case(chance, 4)
            found = ask(*calls, ("free",))[2]
            self.assertEqual(found, free_answer(old_rows, new_rows, columns), calls)

    def test_more_rows_on_one_side(self):
        chance = random.Random(8)
        for old_count, new_count in ((2, 8), (8, 2), (3, 6), (5, 4), (4, 5), (1, 8), (8, 1)):
            old_rows = [[chance.choice([1, 2, None]) for k in range(2)] for row in range(old_count)]
            new_rows = [[chance.choice([1, 2, None]) for k in range(2)] for row in range(new_count)]
            found = ask(("tables", table(["a", "b"], old_rows), table(["a", "b"], new_rows)), ("free",))[1]
            self.assertEqual(found, free_answer(old_rows, new_rows, [(0, 0), (1, 1)]))


class InWhateverOrder(unittest.TestCase):
    def test_rows_moved(self):
        old = table(["k", "v"], [[1, "a"], [2, "b"], [3, "c"]])
        new = table(["k", "v"], [[3, "c"], [1, "a"], [2, "b"]])
        found = ask(("tables", old, new), ("least",), ("free",))
        self.assertEqual(found[1:], [[6, 2, 3, 0, 0, 1, 1, 2, 2], [0, 1, 3, 0, 1, 1, 2, 2, 0]])

    def test_first_one_takes_the_least_new_row_that_still_serves(self):
        old = table(["a", "b"], [[1, 1], [1, 1], [1, 2]])
        new = table(["a", "b"], [[1, 2], [1, 1], [1, 1]])
        self.assertEqual(ask(("tables", old, new), ("free",))[1], [0, 1, 3, 0, 1, 1, 2, 2, 0])

    def test_a_pair_is_taken_where_it_costs_as_much_as_two_lone_rows(self):
        old = table(["a", "b", "c"], [[1, 1, 1]] * 8)
        new = table(["x", "y", "z"], [[1, 1, 1]] * 8)
        straight = [(k, k) for k in range(8)]
        self.assertEqual(ask(("tables", old, new), ("free",))[1], [48, 0] + told(straight))

    def test_no_pair_where_it_costs_more(self):
        old = table(["a", "b", "c", "d"], [[1, 1, 1, 1]] * 8)
        new = table(["x", "y", "z"], [[1, 1, 1]] * 7)
        self.assertEqual(ask(("tables", old, new), ("free",))[1], [45, 0, 0])

    def test_an_early_old_row_is_lone_when_there_are_too_few_new_ones(self):
        old = table(["a", "b"], [[9, 9], [1, 1], [2, 2]])
        new = table(["a", "b"], [[2, 2], [1, 1]])
        self.assertEqual(ask(("tables", old, new), ("free",))[1], [3, 1, 2, 1, 1, 2, 0])

    def test_with_the_columns_as_they_are_matched(self):
        old = table(["a", "b"], [[1, 2], [3, 4]])
        new = table(["a", "b"], [[4, 3], [2, 1]])
        found = ask(("tables", old, new), ("free",), ("cols", flat([(1, 0), (0, 1)])), ("free",))
        self.assertEqual(found[1:], [[4, 0, 2, 0, 0, 1, 1], [5], [0, 1, 2, 0, 1, 1, 0]])


class HowManyRows(unittest.TestCase):
    def test_without_rows(self):
        none = table(["a"], [])
        eight = table(["a"], [[1]] * 8)
        for sides, cost in (((none, none), 0), ((none, eight), 24), ((eight, none), 24)):
            self.assertEqual(ask(("tables",) + sides, ("free",))[1], [cost, 0, 0])

    def test_eight_rows_on_both_sides(self):
        rows = [[k, "w", -k] for k in range(8)]
        old = table(["a", "b", "c"], rows)
        back = [(k, 7 - k) for k in range(8)]
        self.assertEqual(
            ask(("tables", old, table(["a", "b", "c"], rows[::-1])), ("free",))[1], [0, 7] + told(back))
        places = [2, 0, 1, 7, 3, 4, 6, 5]
        moved = table(["a", "b", "c"], [rows[places.index(k)] for k in range(8)])
        self.assertEqual(
            ask(("tables", old, moved), ("free",))[1], [0, 3] + told(list(enumerate(places))))

    def test_nine_rows_on_either_side(self):
        sizes = ((9, 8), (8, 9), (9, 9), (9, 0), (0, 9), (12, 12), (12, 8), (8, 12))
        for old_count, new_count in sizes:
            old = table(["a"], [[1]] * old_count)
            new = table(["a"], [[1]] * new_count)
            self.assertEqual(ask(("tables", old, new), ("free",))[1], [-6])

    def test_eight_rows_on_either_side_with_fewer_on_the_other(self):
        eight = table(["a"], [[1]] * 8)
        two = table(["a"], [[2], [1]])
        for sides in ((eight, two), (two, eight)):
            self.assertEqual(ask(("tables",) + sides, ("free",))[1], [19, 0, 2, 0, 0, 1, 1])


if __name__ == "__main__":
    unittest.main()
