"""Whole lines: every call before there are tables, what refusals leave, and forty calls on full tables."""

import unittest

from helper import LIMIT, NAMES, ask, flat, line, table, told
from matchedrows.twotables import answers

STRAIGHT = [(k, k) for k in range(12)]
FULL = table(NAMES, [[k, "wordword", -k, None, "~" * (1 + k % 8)] for k in range(12)])
OTHER = table(["v", "c", "a", "w", "x"], [["ends", k, "wordwor" + str(k % 3), None, -1000000] for k in range(12)])
ALIKE = table(NAMES, [["wordword"] * 3 + [None, None]] * 12)
CALLS = [
    ("least",), ("kth", 0), ("kth", 10 ** 6), ("cost", flat(STRAIGHT)), ("pair", 11, 11), ("surely",), ("maybe",),
    ("free",), ("keyed", [0]), ("keyed", [0, 1, 2, 3, 4]), ("patch",), ("rank", flat(STRAIGHT)), ("rank", [])]
WRONG = [
    ("tables", [], []), ("tables", FULL, FULL[:-1]), ("tables", FULL + [0], FULL), ("tables", [LIMIT], [-LIMIT]),
    ("cols", [0]), ("cols", [0, 1, 1, 0]), ("cols", [5, 5]), ("cols", [LIMIT, 0]), ("kth", -1), ("kth", -LIMIT),
    ("cost", [0]), ("cost", [0, 1, 1, 0]), ("cost", [12, 12]), ("cost", [0, LIMIT]), ("pair", 12, 0),
    ("pair", 0, -LIMIT), ("free",), ("keyed", []), ("keyed", [1, 0]), ("keyed", [5]), ("keyed", [-LIMIT]),
    ("rank", [0]), ("rank", [0, 1, 1, 0]), ("rank", [12, 12]), ("rank", [LIMIT, 0])]
REFUSALS = [-1] * 4 + [-2] * 4 + [-4] * 2 + [-3] * 4 + [-4] * 2 + [-6] + [-2] * 4 + [-3] * 4


class BeforeThereAreTables(unittest.TestCase):
    def test_every_call(self):
        # What the lists and numbers are is not looked at then.
        wrong = [call for call in WRONG if call[0] != "tables"]
        for part in (CALLS, wrong):
            self.assertEqual(ask(*part), [[-8]] * len(part))
            found = ask(("tables", FULL, []), *part, ("tables", FULL, FULL), ("least",))
            self.assertEqual(found[0], [-1])
            self.assertEqual(found[1:-2], [[-8]] * len(part))
            self.assertEqual(found[-2:], [[12, 12, 5], [0, 1] + told(STRAIGHT)])


class Refusals(unittest.TestCase):
    def test_each_is_its_number_alone(self):
        found = ask(("tables", FULL, OTHER), *WRONG)[1:]
        self.assertEqual(found, [[number] for number in REFUSALS])

    def test_none_changes_anything(self):
        for columns in ([0, 1, 2, 2], flat([(4, 0), (0, 3), (1, 4)])):
            begun = [("tables", FULL, OTHER), ("cols", columns)]
            before = ask(*begun, *CALLS)[2:]
            for call, number in zip(WRONG, REFUSALS):
                found = ask(*begun, call, *CALLS)[2:]
                self.assertEqual(found, [[number]] + before, call)


class FortyCalls(unittest.TestCase):
    def test_each_answers_as_it_does_alone(self):
        for sides in ((FULL, FULL), (FULL, OTHER), (ALIKE, ALIKE), (ALIKE, FULL)):
            first = ("tables",) + sides
            calls = (CALLS * 3)[:39]
            self.assertEqual(len(calls), 39)
            found = ask(first, *calls)
            alone = [ask(first, call)[1] for call in CALLS]
            self.assertEqual(found[1:], (alone * 3)[:39])
            self.assertTrue(all(len(answer) <= 3000 for answer in found))

    def test_each_kind_of_call_forty_times(self):
        for call in CALLS:
            found = ask(("tables", FULL, OTHER), *[call] * 39)[1:]
            self.assertEqual(found, [ask(("tables", FULL, OTHER), call)[1]] * 39)

    def test_free_and_patch_on_eight_full_rows(self):
        rows = [["wordword", k, k % 3, "w" * 8, -k] for k in range(8)]
        old = table(NAMES, rows)
        new = table(NAMES[::-1], [row[::-1] for row in rows[::-1]])
        found = ask(("tables", old, new), *[("free",)] * 39)
        back = [(k, 7 - k) for k in range(8)]
        self.assertEqual(found[1:], [[0, 7] + told(back)] * 39)

    def test_tables_and_columns_again_and_again(self):
        columns = flat([(k, k) for k in range(5)])
        calls = [("tables", FULL, FULL), ("cols", []), ("cols", columns)] * 13 + [("least",)]
        self.assertLessEqual(len(line(*calls)), 17000)
        self.assertEqual(ask(*calls), [[12, 12, 5], [40], [0]] * 13 + [[0, 1] + told(STRAIGHT)])

    def test_the_longest_patch(self):
        old = table(NAMES, [["wordword"] * 5] * 12)
        new = table(NAMES, [["WORDWORD"] * 5] * 12)
        found = answers(line(("tables", old, new), *[("patch",)] * 39))
        self.assertLessEqual(len(found), 40 * 3001)
        side = table(NAMES, [])[:-1] + [12, 0, 60]
        for_old = [number for k in range(60) for number in [k // 5, k % 5, 2, 8] + [ord(sign) for sign in "wordword"]]
        for_new = [number for k in range(60) for number in [k // 5, k % 5, 2, 8] + [ord(sign) for sign in "WORDWORD"]]
        patch = [60] + told(STRAIGHT[:5]) + told(STRAIGHT) + side + for_old + side + for_new
        self.assertEqual(found, [3, 12, 12, 5] + ([len(patch)] + patch) * 39)


if __name__ == "__main__":
    unittest.main()
