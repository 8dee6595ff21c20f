"""The call patch: what it costs, and both sides of it, held against the words of the document."""

import random
import unittest

from helper import NAMES, all_matchings, ask, cell, flat, longest_rising, matching_cost, some_case, table, told


def told_side(names, rows, others, columns, pairs):
    """columns and pairs: this side's number first, the other side's behind it."""
    numbers = table(names, [])[:-1] + [len(rows)]
    lone = [row for row in range(len(rows)) if row not in [own for own, other in pairs]]
    numbers.append(len(lone))
    for row in lone:
        numbers += [row] + [number for value in rows[row] for number in cell(value)]
    cells = []
    for own, other in pairs:
        for column, value in enumerate(rows[own]):
            facing = [others[other][behind] for ahead, behind in columns if ahead == column]
            if facing and facing[0] != value or not facing and value is not None:
                cells.append([own, column] + cell(value))
    return numbers + [len(cells)] + [number for part in cells for number in part]


def turned(pairs):
    return [(new, old) for old, new in pairs]


def patch_answer(old_names, new_names, old_rows, new_rows, columns):
    matchings = all_matchings(len(old_rows), len(new_rows))
    costs = [matching_cost(old_rows, new_rows, columns, pairs) for pairs in matchings]
    first = matchings[costs.index(min(costs))]
    cost = min(costs) + 4 * (len(old_names) + len(new_names) - 2 * len(columns))
    cost += len(columns) - longest_rising([old for old, new in columns])
    cost += sum(2 for old, new in columns if old_names[old] != new_names[new])
    old_side = told_side(old_names, old_rows, new_rows, columns, first)
    new_side = told_side(new_names, new_rows, old_rows, turned(columns), turned(first))
    return [cost] + told(columns) + told(first) + old_side + new_side


class AgainstTheWords(unittest.TestCase):
    def test_any_tables(self):
        chance = random.Random(11)
        for k in range(200):
            old_rows, new_rows, columns, calls = some_case(chance, 5)
            old_names, new_names = NAMES[:calls[0][1][0]], NAMES[:calls[0][2][0]]
            expected = patch_answer(old_names, new_names, old_rows, new_rows, columns)
            self.assertEqual(ask(*calls, ("patch",))[2], expected, calls)

    def test_words_and_numbers_below_nothing(self):
        chance = random.Random(12)
        values = [None, -1, -1000000, 1000000, "~ -1", "wordword"]
        names = ["name", "b2", "longname"]
        for k in range(60):
            old_rows = [[chance.choice(values) for name in names] for row in range(chance.randint(0, 5))]
            new_rows = [[chance.choice(row + values) for name in names] for row in old_rows][:chance.randint(0, 5)]
            columns = chance.choice([[(0, 0), (1, 1), (2, 2)], [(2, 0), (0, 1)], [(1, 2)], []])
            found = ask(("tables", table(names, old_rows), table(names, new_rows)), ("cols", flat(columns)), ("patch",))
            self.assertEqual(found[2], patch_answer(names, names, old_rows, new_rows, columns))


class Cells(unittest.TestCase):
    def test_cells_unlike_are_told_on_both_sides_also_an_empty_one(self):
        old = table(["k", "v"], [[1, None], [2, "b"]])
        new = table(["k", "v"], [[1, "a"], [2, None]])
        names = [2, 1, 107, 1, 118, 2, 0]
        old_side = names + [2, 0, 1, 0, 1, 1, 2, 1, 98]
        new_side = names + [2, 0, 1, 2, 1, 97, 1, 1, 0]
        self.assertEqual(
            ask(("tables", old, new), ("patch",))[1], [2, 2, 0, 0, 1, 1, 2, 0, 0, 1, 1] + old_side + new_side)

    def test_cells_of_lone_columns_are_told_unless_empty(self):
        old = table(["k", "x"], [[1, -7], [2, None]])
        new = table(["y", "k"], [[None, 1], ["w~", 2]])
        old_side = [2, 1, 107, 1, 120, 2, 0, 1, 0, 1, 1, -7]
        new_side = [2, 1, 121, 1, 107, 2, 0, 1, 1, 0, 2, 2, 119, 126]
        self.assertEqual(
            ask(("tables", old, new), ("patch",))[1], [10, 1, 0, 1, 2, 0, 0, 1, 1] + old_side + new_side)

    def test_each_side_by_its_own_columns(self):
        old = table(["a", "b", "c"], [[1, 2, 3]])
        new = table(["x", "c", "a"], [[None, 4, 5]])
        found = ask(("tables", old, new), ("patch",))[1]
        old_side = [3, 1, 97, 1, 98, 1, 99, 1, 0, 3, 0, 0, 1, 1, 0, 1, 1, 2, 0, 2, 1, 3]
        new_side = [3, 1, 120, 1, 99, 1, 97, 1, 0, 2, 0, 1, 1, 4, 0, 2, 1, 5]
        self.assertEqual(found, [12, 2, 2, 1, 0, 2, 1, 0, 0] + old_side + new_side)


class Rows(unittest.TestCase):
    def test_lone_rows_with_all_their_cells(self):
        old = table(["a", "b", "c", "d"], [[1, "a", 1, 1], [2, None, "z", 2], [3, "c", 3, 3]])
        new = table(["a", "b", "c", "d"], [[1, "a", 1, 1], [3, "c", 3, 3], [None, -9, None, None], [None] * 4])
        names = table(["a", "b", "c", "d"], [])[:-1]
        old_side = names + [3, 1, 1, 1, 2, 0, 2, 1, 122, 1, 2, 0]
        new_side = names + [4, 2, 2, 0, 1, -9, 0, 0, 3, 0, 0, 0, 0, 0]
        self.assertEqual(
            ask(("tables", old, new), ("patch",))[1],
            [9] + told([(0, 0), (1, 1), (2, 2), (3, 3)]) + told([(0, 0), (2, 1)]) + old_side + new_side)

    def test_with_the_first_of_the_least_matchings(self):
        old = table(["k"], [[1]])
        new = table(["k"], [[1], [1]])
        found = ask(("tables", old, new), ("patch",))[1]
        self.assertEqual(found, [3, 1, 0, 0, 1, 0, 0] + [1, 1, 107, 1, 0, 0] + [1, 1, 107, 2, 1, 1, 1, 1, 0])

    def test_tables_that_are_alike(self):
        full = table(NAMES, [[k, "wordword", -k, None, "x"] for k in range(12)])
        straight = [(k, k) for k in range(12)]
        side = table(NAMES, [])[:-1] + [12, 0, 0]
        self.assertEqual(
            ask(("tables", full, full), ("patch",))[1], [0] + told(straight[:5]) + told(straight) + side + side)

    def test_without_rows(self):
        none = table(["a"], [])
        one = table(["a", "b"], [["w", -5]])
        none_side = [1, 1, 97, 0, 0, 0]
        one_side = [2, 1, 97, 1, 98, 1, 1, 0, 2, 1, 119, 1, -5, 0]
        for sides, expected in (
                ((none, none), [0, 1, 0, 0, 0] + none_side + none_side),
                ((none, one), [7, 1, 0, 0, 0] + none_side + one_side),
                ((one, none), [7, 1, 0, 0, 0] + one_side + none_side)):
            self.assertEqual(ask(("tables",) + sides, ("patch",))[1], expected)


class Columns(unittest.TestCase):
    def test_columns_renamed_and_moved(self):
        old = table(["a", "b"], [[1, 2]])
        new = table(["b", "x"], [[2, 1]])
        found = ask(("tables", old, new), ("cols", [1, 0, 0, 1]), ("patch",))
        side = [1, 0, 0]
        self.assertEqual(
            found[1:], [[3], [3, 2, 1, 0, 0, 1, 1, 0, 0] + [2, 1, 97, 1, 98] + side + [2, 1, 98, 1, 120] + side])

    def test_no_column_matched(self):
        old = table(["a"], [[1], [None]])
        found = ask(("tables", old, old), ("cols", []), ("patch",))[2]
        side = [1, 1, 97, 2, 0, 1, 0, 0, 1, 1]
        self.assertEqual(found, [10, 0, 2, 0, 0, 1, 1] + side + side)


if __name__ == "__main__":
    unittest.main()
