"""Calls and tables written plainly for the tests, answers taken apart, and matchings tried one by one."""

import itertools

from matchedrows.twotables import answers

LIMIT = 10 ** 18
NAMES = ["a", "b", "c", "d", "e"]
VALUES = [None, None, 0, 1, "0", "w"]
CALLS = {
    "tables": 0, "cols": 1, "least": 2, "kth": 3, "cost": 4, "pair": 5,
    "surely": 6, "maybe": 7, "free": 8, "keyed": 9, "patch": 10, "rank": 11}


def line(*calls):
    """One list of numbers: each call a name, then whole numbers and lists."""
    numbers = []
    for call in calls:
        numbers.append(CALLS[call[0]])
        for handed in call[1:]:
            if isinstance(handed, int):
                numbers.append(handed)
            else:
                numbers.append(len(handed))
                numbers.extend(handed)
    return numbers


def split(told):
    """The answers of a line, a list each."""
    found = []
    place = 0
    while place < len(told):
        found.append(told[place + 1:place + 1 + told[place]])
        place += 1 + told[place]
    return found


def ask(*calls):
    """The answers to a line of calls, a list each."""
    return split(answers(line(*calls)))


def cell(value):
    """None is an empty cell, an int a number, a str a word."""
    if value is None:
        return [0]
    if isinstance(value, int):
        return [1, value]
    return [2, len(value)] + [ord(sign) for sign in value]


def table(names, rows):
    numbers = [len(names)]
    for name in names:
        numbers += [len(name)] + [ord(sign) for sign in name]
    numbers.append(len(rows))
    for row in rows:
        for value in row:
            numbers += cell(value)
    return numbers


def flat(pairs):
    return [number for pair in pairs for number in pair]


def told(pairs):
    return [len(pairs)] + flat(pairs)


def changed_in_each_place(numbers, values):
    """The list again and again, each time with one of the values in one place."""
    return [
        numbers[:place] + [value] + numbers[place + 1:]
        for place in range(len(numbers)) for value in values]


def longest_rising(numbers):
    """How long a longest rising part is, by trying every part."""
    for length in range(len(numbers), 0, -1):
        for part in itertools.combinations(numbers, length):
            if list(part) == sorted(part):
                return length
    return 0


def all_matchings(old_count, new_count):
    """In their order: the lesser pair first, and one with a pair ahead of one with none left."""
    found = []
    for length in range(min(old_count, new_count) + 1):
        for olds in itertools.combinations(range(old_count), length):
            for news in itertools.combinations(range(new_count), length):
                found.append(list(zip(olds, news)))
    behind_all = (old_count, new_count)
    return sorted(found, key=lambda pairs: pairs + [behind_all])


def pair_cost(old_row, new_row, columns):
    cost = sum(1 for old, new in columns if old_row[old] != new_row[new])
    for place, row in ((0, old_row), (1, new_row)):
        taken = [pair[place] for pair in columns]
        cost += sum(1 for column, value in enumerate(row) if column not in taken and value is not None)
    return cost


def matching_cost(old_rows, new_rows, columns, pairs):
    cost = 3 * (len(old_rows) + len(new_rows) - 2 * len(pairs))
    return cost + sum(pair_cost(old_rows[old], new_rows[new], columns) for old, new in pairs)


def some_rows(chance, row_count, column_count):
    return [[chance.choice(VALUES) for column in range(column_count)] for row in range(row_count)]


def some_columns(chance, old_count, new_count):
    length = chance.randint(0, min(old_count, new_count))
    olds = chance.sample(range(old_count), length)
    return list(zip(olds, sorted(chance.sample(range(new_count), length))))


def some_case(chance, most_rows):
    old_columns = chance.randint(1, 5)
    new_columns = chance.randint(1, 5)
    old_rows = some_rows(chance, chance.randint(0, most_rows), old_columns)
    new_rows = some_rows(chance, chance.randint(0, most_rows), new_columns)
    columns = some_columns(chance, old_columns, new_columns)
    calls = [
        ("tables", table(NAMES[:old_columns], old_rows), table(NAMES[:new_columns], new_rows)),
        ("cols", flat(columns))]
    return old_rows, new_rows, columns, calls


def weighed_case(chance, most_rows):
    """The calls that set a case up, all its matchings, and what each of them costs."""
    old_rows, new_rows, columns, calls = some_case(chance, most_rows)
    matchings = all_matchings(len(old_rows), len(new_rows))
    costs = [matching_cost(old_rows, new_rows, columns, pairs) for pairs in matchings]
    return calls, matchings, costs


def least_ones(matchings, costs):
    return [pairs for pairs, cost in zip(matchings, costs) if cost == min(costs)]


class Guarded(list):
    """A list that can't be changed, not for a while either."""

    def refuse(self, *handed, **named):
        raise AssertionError("what is handed in is changed")

    append = clear = extend = insert = pop = remove = reverse = sort = refuse
    __setitem__ = __delitem__ = __iadd__ = __imul__ = refuse
