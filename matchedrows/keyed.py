"""Some matched columns taken as keys, and the pairs of rows that follow."""

from matchedrows.refusals import NotKeys
from matchedrows.rising import rises


# Each key with the new column that it is matched with.
def read_keys(numbers, columns):
    if len(numbers) == 0 or not rises(numbers):
        raise NotKeys()
    matched = dict(columns)
    for number in numbers:
        if number not in matched:
            raise NotKeys()
    return [(old, matched[old]) for old in numbers]


def pairs_by_keys(old_rows, new_rows, keys):
    old_keys = row_keys(old_rows, [old for old, new in keys])
    new_keys = row_keys(new_rows, [new for old, new in keys])
    pairs = []
    for place, key in enumerate(old_keys):
        if old_keys.count(key) == 1 and new_keys.count(key) == 1:
            pairs.append((place, new_keys.index(key)))
    return pairs


def row_keys(rows, columns):
    return [[row[column] for column in columns] for row in rows]
