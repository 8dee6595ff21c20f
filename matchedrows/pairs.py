"""Pairs of columns and of rows, as they are handed over and told, and what is in none."""

from matchedrows.refusals import NotColumnPairs, NotRowPairs
from matchedrows.rising import rises


def read_column_pairs(numbers, old_count, new_count):
    if not are_whole_pairs(numbers, old_count, new_count):
        raise NotColumnPairs()
    pairs = paired(numbers)
    olds = [old for old, new in pairs]
    news = [new for old, new in pairs]
    if not rises(news) or len(set(olds)) < len(olds):
        raise NotColumnPairs()
    return pairs


def read_row_pairs(numbers, old_count, new_count):
    if not are_whole_pairs(numbers, old_count, new_count):
        raise NotRowPairs()
    pairs = paired(numbers)
    if not rises([old for old, new in pairs]) or not rises([new for old, new in pairs]):
        raise NotRowPairs()
    return pairs


def are_whole_pairs(numbers, old_count, new_count):
    if len(numbers) % 2 != 0:
        return False
    for old, new in paired(numbers):
        if not is_there(old, old_count) or not is_there(new, new_count):
            return False
    return True


def paired(numbers):
    return [(numbers[place], numbers[place + 1]) for place in range(0, len(numbers), 2)]


def is_there(number, count):
    return 0 <= number < count


def lone_numbers(taken, count):
    return [number for number in range(count) if number not in taken]


def turned(pairs):
    return [(new, old) for old, new in pairs]


def told_pairs(pairs):
    told = [len(pairs)]
    for old, new in pairs:
        told.append(old)
        told.append(new)
    return told
