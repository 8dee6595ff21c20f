"""The document's own example, whole, and what the interface says of what is handed in and given back."""

import unittest

from helper import Guarded, ask, line, split
from matchedrows.twotables import answers

OLD = [2, 1, 107, 1, 118, 3, 1, 1, 2, 1, 97, 1, 2, 2, 1, 98, 1, 3, 2, 1, 99]
NEW = [2, 1, 107, 1, 118, 3, 1, 1, 2, 1, 97, 1, 3, 2, 1, 100, 1, 4, 2, 1, 99]


OLD_SIDE = [2, 1, 107, 1, 118, 3, 0, 3, 1, 0, 1, 2, 1, 1, 2, 1, 98, 2, 0, 1, 3]
NEW_SIDE = [2, 1, 107, 1, 118, 3, 0, 3, 1, 0, 1, 3, 1, 1, 2, 1, 100, 2, 0, 1, 4]
PATCH = [3, 2, 0, 0, 1, 1, 3, 0, 0, 1, 1, 2, 2] + OLD_SIDE + NEW_SIDE


class Example(unittest.TestCase):
    def test_each_call_answers_as_told(self):
        found = ask(
            ("tables", OLD, NEW), ("least",), ("cost", [0, 0, 2, 1]), ("pair", 2, 1), ("free",), ("keyed", [0]),
            ("keyed", [1]), ("patch",), ("cols", [0, 1]))
        self.assertEqual(found, [
            [3, 3, 2], [3, 1, 3, 0, 0, 1, 1, 2, 2], [7, 4], [1], [3, 0, 3, 0, 0, 1, 1, 2, 2],
            [2, 0, 0, 2, 1, 0, 7, 2, 0, 0, 2, 1], [2, 0, 0, 2, 2, 0, 7, 2, 0, 0, 2, 2], PATCH, [10]])

    def test_the_numbers_as_they_stand(self):
        calls = [0, 21] + OLD + [21] + NEW
        calls += [2, 3, 0, 4, 4, 0, 0, 2, 1, 5, 2, 1, 6, 7, 8, 9, 1, 0, 9, 1, 1, 10, 11, 2, 0, 0, 1, 2, 0, 1]
        expected = [3, 3, 3, 2]
        expected += [9, 3, 1, 3, 0, 0, 1, 1, 2, 2]
        expected += [8, 1, 3, 0, 0, 1, 1, 2, 2]
        expected += [2, 7, 4, 1, 1]
        expected += [7, 3, 0, 0, 1, 1, 2, 2] * 2
        expected += [9, 3, 0, 3, 0, 0, 1, 1, 2, 2]
        expected += [12, 2, 0, 0, 2, 1, 0, 7, 2, 0, 0, 2, 1]
        expected += [12, 2, 0, 0, 2, 2, 0, 7, 2, 0, 0, 2, 2]
        expected += [55] + PATCH
        expected += [1, 0, 1, 10]
        self.assertEqual(answers(calls), expected)

    def test_the_only_least_matching(self):
        straight = [0, 0, 1, 1, 2, 2]
        found = ask(("tables", OLD, NEW), ("kth", 0), ("kth", 1), ("rank", straight), ("rank", []))
        self.assertEqual(found[1:], [[1, 3] + straight, [0], [1, 0], [0]])


EVERY_CALL = [
    ("tables", OLD, NEW), ("least",), ("cost", [0, 0, 2, 1]), ("cols", [0, 1]), ("kth", 0), ("pair", 0, 0),
    ("surely",), ("maybe",), ("free",), ("keyed", [0]), ("patch",), ("rank", [0, 0]), ("tables", OLD, NEW[:-1]),
    ("cols", [0]), ("kth", -1), ("cost", [3, 3]), ("pair", 3, 0), ("keyed", []), ("rank", [0])]


class Interface(unittest.TestCase):
    def test_what_is_handed_in_stays_as_it_was(self):
        calls = line(*EVERY_CALL)
        before = list(calls)
        told = answers(calls)
        self.assertEqual(calls, before)
        self.assertEqual(answers(Guarded(calls)), told)

    def test_a_second_time_answers_as_the_first_did(self):
        calls = line(("least",), *EVERY_CALL)
        first = answers(calls)
        self.assertEqual(split(first)[0], [-8])
        kept = list(first)
        self.assertEqual(answers(calls), kept)
        self.assertEqual(first, kept)

    def test_nothing_is_kept_for_the_next_list(self):
        answers(line(("tables", OLD, NEW)))
        self.assertEqual(answers(line(("least",))), [1, -8])

    def test_answers_are_a_list_of_plain_whole_numbers(self):
        told = answers(line(("pair", 3, 0), *EVERY_CALL))
        self.assertIs(type(told), list)
        self.assertEqual({type(number) for number in told}, {int})


if __name__ == "__main__":
    unittest.main()
