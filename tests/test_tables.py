"""The call tables: what is a table, what is none, and how columns are matched at first."""

import unittest

from helper import LIMIT, ask, changed_in_each_place, flat, table

PLAIN = table(["k", "v"], [[1, "a"], [None, "b"]])


def tables_answer(old, new):
    return ask(("tables", old, new))[0]


class WholeTables(unittest.TestCase):
    def assert_table(self, numbers, rows):
        other = table(["zzz"], [])
        self.assertEqual(tables_answer(numbers, other), [rows, 0, 0])
        self.assertEqual(tables_answer(other, numbers), [0, rows, 0])

    def test_counts_of_rows_and_matched_columns(self):
        old = table(["a", "b", "c"], [[1, 2, 3]])
        new = table(["c", "x", "a", "y"], [[1, 2, 3, 4], [None] * 4])
        self.assertEqual(tables_answer(old, new), [1, 2, 2])

    def test_without_rows(self):
        self.assert_table(table(["k"], []), 0)
        self.assert_table([1, 1, 97, 0], 0)

    def test_twelve_rows_on_both_sides(self):
        full = table(["k"], [[number] for number in range(12)])
        self.assertEqual(tables_answer(full, full), [12, 12, 1])

    def test_one_and_five_columns(self):
        self.assert_table(table(["a"], [[1]]), 1)
        self.assert_table(table(["a", "b", "c", "d", "e"], [[1, None, "x", -4, "yy"]]), 1)

    def test_names_of_one_and_eight_bytes_at_the_ends_of_their_bytes(self):
        self.assert_table(table(["a", "z", "a0z9a0z9", "zzzzzzzz", "a9"], []), 0)

    def test_words_of_one_and_eight_bytes_at_the_ends_of_their_bytes(self):
        self.assert_table(table(["k"], [[" "], ["~"], [" ~ ~ ~ ~"], ["Word 1;\""]]), 4)

    def test_numbers_at_both_ends(self):
        self.assert_table(table(["k"], [[-1000000], [1000000], [0], [-1]]), 4)

    def test_longest_tables(self):
        names = ["aaaaaaa" + sign for sign in "abcde"]
        longest = table(names, [["wordword"] * 5 for row in range(12)])
        self.assertEqual(len(longest), 647)
        self.assertEqual(tables_answer(longest, longest), [12, 12, 5])


class NoTables(unittest.TestCase):
    def assert_refused(self, numbers):
        self.assertEqual(tables_answer(numbers, PLAIN), [-1], numbers)
        self.assertEqual(tables_answer(PLAIN, numbers), [-1], numbers)
        self.assertEqual(tables_answer(numbers, numbers), [-1], numbers)

    def test_too_short_by_any_length(self):
        whole = table(["ab", "v2"], [[1, "abc"], [None, -5], ["x", None]])
        for length in range(len(whole)):
            self.assert_refused(whole[:length])

    def test_too_long(self):
        for more in ([0], [1], [-1], [LIMIT], [0, 0], [1, 5], [0] * 683):
            self.assert_refused(PLAIN + more)
        full = table(["k"], [[1]] * 12)
        self.assert_refused(full + [0])

    def test_seven_hundred_numbers(self):
        for number in (0, 1, 2, LIMIT, -LIMIT):
            self.assert_refused([number] * 700)

    def test_far_out_in_each_place(self):
        whole = table(["ab", "v2"], [[1, "abc"], [None, -5]])
        for numbers in changed_in_each_place(whole, (LIMIT, -LIMIT, 1000001, -1000001)):
            self.assert_refused(numbers)

    def test_how_many_columns(self):
        self.assert_refused([0, 0])
        self.assert_refused([-1, 0])
        self.assert_refused(table(["a", "b", "c", "d", "e", "f"], []))

    def test_how_long_a_name_is(self):
        self.assert_refused([1, 0, 0])
        self.assert_refused(table(["abcdefghi"], []))

    def test_bytes_of_a_name(self):
        for name in ("`", "{", "A", "Z", "_", " ", "0", "9", "1a", "9z"):
            self.assert_refused(table([name], []))
        for sign in "`{/:AZ_ -":
            self.assert_refused(table(["a" + sign], []))
            self.assert_refused(table(["a" + sign + "b"], []))

    def test_names_that_are_alike(self):
        self.assert_refused(table(["a", "a"], []))
        self.assert_refused(table(["ab", "c", "ab"], []))
        self.assert_refused(table(["v", "w", "x", "longname", "longname"], []))

    def test_names_that_are_nearly_alike(self):
        self.assertEqual(tables_answer(table(["a", "aa", "ab", "b"], []), PLAIN), [0, 2, 0])

    def test_how_many_rows(self):
        self.assert_refused(table(["k"], [[None]] * 13))
        self.assert_refused([1, 1, 97, -1])

    def test_kinds_of_cells(self):
        self.assert_refused([1, 1, 97, 1, 3])
        self.assert_refused([1, 1, 97, 1, 3, 5])
        self.assert_refused([1, 1, 97, 1, -1])

    def test_numbers_beyond_both_ends(self):
        self.assert_refused(table(["k"], [[1000001]]))
        self.assert_refused(table(["k"], [[-1000001]]))

    def test_how_long_a_word_is(self):
        self.assert_refused([1, 1, 97, 1, 2, 0])
        self.assert_refused([1, 1, 97, 1, 2, -1])
        self.assert_refused(table(["k"], [["123456789"]]))

    def test_bytes_of_a_word(self):
        for byte in (31, 127, 0, 10, -1, 255):
            self.assert_refused([1, 1, 97, 1, 2, 1, byte])
            self.assert_refused([1, 1, 97, 1, 2, 2, 65, byte])

    def test_an_empty_list(self):
        self.assert_refused([])


class MatchedAtFirst(unittest.TestCase):
    def test_columns_with_the_same_name_wherever_they_stand(self):
        old = table(["a", "b"], [[1, 2]])
        new = table(["b", "c", "a"], [[2, None, 1], [1, None, 2], [2, 5, 1]])
        found = ask(("tables", old, new), ("pair", 0, 0), ("pair", 0, 1), ("pair", 0, 2))
        self.assertEqual(found, [[1, 3, 2], [0], [2], [1]])

    def test_again_by_name_when_tables_come_again(self):
        one = table(["a", "b"], [[1, 2]])
        found = ask(
            ("tables", one, one), ("cols", [0, 1]), ("pair", 0, 0), ("tables", one, one),
            ("pair", 0, 0))
        self.assertEqual(found, [[1, 1, 2], [10], [3], [1, 1, 2], [0]])

    def test_the_later_tables_hold(self):
        found = ask(
            ("tables", PLAIN, PLAIN), ("tables", table(["k"], []), table(["k"], [[1]])), ("least",),
            ("pair", 0, 0))
        self.assertEqual(found, [[2, 2, 2], [0, 1, 1], [3, 1, 0], [-4]])


class NothingChangedByARefusal(unittest.TestCase):
    def test_tables_refused_leave_those_that_were(self):
        old = table(["a", "b"], [[1, 2], [3, 4], [5, 6]])
        new = table(["b", "a"], [[2, 1], [6, 5]])
        asked = [("least",), ("kth", 0), ("cost", [0, 0]), ("pair", 1, 1)]
        before = ask(("tables", old, new), ("cols", [1, 0]), *asked)[2:]
        for wrong in ((old, new[:-1]), (old[:-1], new), ([], []), (PLAIN, PLAIN + [0])):
            found = ask(("tables", old, new), ("cols", [1, 0]), ("tables",) + wrong, *asked)
            self.assertEqual(found[2], [-1])
            self.assertEqual(found[3:], before)

    def test_tables_refused_at_first_leave_none(self):
        found = ask(("tables", PLAIN, []), ("least",), ("tables", [], PLAIN), ("least",))
        self.assertEqual(found, [[-1], [-8], [-1], [-8]])

    def test_before_there_are_tables(self):
        rows = flat([(0, 0)])
        found = ask(
            ("cols", rows), ("least",), ("kth", 0), ("cost", rows), ("pair", 0, 0), ("cols", [1]),
            ("kth", -1), ("cost", [1]), ("pair", -1, -1), ("cost", []), ("cols", []),
            ("tables", PLAIN, PLAIN), ("kth", -1))
        self.assertEqual(found, [[-8]] * 11 + [[2, 2, 2], [-4]])


if __name__ == "__main__":
    unittest.main()
