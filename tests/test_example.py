"""The document's own example, as far as it speaks of the calls there are."""

import unittest

from helper import Guarded, ask, line, split
from matchedrows.twotables import answers

OLD = [2, 1, 107, 1, 118, 3, 1, 1, 2, 1, 97, 1, 2, 2, 1, 98, 1, 3, 2, 1, 99]
NEW = [2, 1, 107, 1, 118, 3, 1, 1, 2, 1, 97, 1, 3, 2, 1, 100, 1, 4, 2, 1, 99]


class Example(unittest.TestCase):
    def test_each_call_answers_as_told(self):
        found = ask(
            ("tables", OLD, NEW), ("least",), ("cost", [0, 0, 2, 1]), ("pair", 2, 1), ("cols", [0, 1]))
        self.assertEqual(found, [[3, 3, 2], [3, 1, 3, 0, 0, 1, 1, 2, 2], [7, 4], [1], [10]])

    def test_the_numbers_as_they_stand(self):
        calls = [0, 21] + OLD + [21] + NEW + [2, 4, 4, 0, 0, 2, 1, 5, 2, 1, 1, 2, 0, 1, 3, 0]
        tables = [3, 3, 3, 2]
        least = [9, 3, 1, 3, 0, 0, 1, 1, 2, 2]
        cost_pair_cols = [2, 7, 4, 1, 1, 1, 10]
        kth = [8, 1, 3, 0, 0, 1, 1, 2, 2]
        self.assertEqual(answers(calls), tables + least + cost_pair_cols + kth)

    def test_kth_of_the_only_least_matching(self):
        found = ask(("tables", OLD, NEW), ("kth", 0), ("kth", 1))
        self.assertEqual(found[1:], [[1, 3, 0, 0, 1, 1, 2, 2], [0]])


class Interface(unittest.TestCase):
    def test_what_is_handed_in_stays_as_it_was(self):
        calls = line(
            ("tables", OLD, NEW), ("least",), ("cost", [0, 0, 2, 1]), ("cols", [0, 1]), ("kth", 0),
            ("pair", 0, 0), ("tables", OLD, NEW[:-1]))
        before = list(calls)
        told = answers(calls)
        self.assertEqual(calls, before)
        self.assertEqual(answers(Guarded(calls)), told)

    def test_a_second_time_answers_as_the_first_did(self):
        calls = line(("least",), ("tables", OLD, NEW), ("cols", [0, 1]), ("least",), ("cost", []))
        first = answers(calls)
        self.assertEqual(split(first)[0], [-8])
        self.assertEqual(answers(calls), first)

    def test_nothing_is_kept_for_the_next_list(self):
        answers(line(("tables", OLD, NEW)))
        self.assertEqual(answers(line(("least",))), [1, -8])

    def test_answers_are_a_list_of_plain_whole_numbers(self):
        told = answers(line(("tables", OLD, NEW), ("least",), ("kth", 0), ("kth", 9), ("pair", 3, 0)))
        self.assertIs(type(told), list)
        self.assertEqual({type(number) for number in told}, {int})


if __name__ == "__main__":
    unittest.main()
