"""Pairs of columns and of rows, as they are handed over and told."""

from matchedrows.refusals import NotColumnPairs, NotRowPairs


def read_column_pairs(numbers, old_count, new_count):
    if not are_whole_pairs(numbers, old_count, new_count):
        raise NotColumnPairs()
    pairs = paired(numbers)
    olds = [old for old, new in pairs]
    news = [new for old, new in pairs]
    if not rises(news) or len(set(olds)) < len(olds):
        raise NotColumnPairs()
    return pairs


def read_row_pairs(numbers, old_count, new_count):
    if not are_whole_pairs(numbers, old_count, new_count):
        raise NotRowPairs()
    pairs = paired(numbers)
    if not rises([old for old, new in pairs]) or not rises([new for old, new in pairs]):
        raise NotRowPairs()
    return pairs


def are_whole_pairs(numbers, old_count, new_count):
    if len(numbers) % 2 != 0:
        return False
    for old, new in paired(numbers):
        if not is_there(old, old_count) or not is_there(new, new_count):
            return False
    return True


def paired(numbers):
    return [(numbers[place], numbers[place + 1]) for place in range(0, len(numbers), 2)]


def is_there(number, count):
    return 0 <= number < count


def rises(numbers):
    for place in range(1, len(numbers)):
        if numbers[place - 1] >= numbers[place]:
            return False
    return True


def longest_rising(numbers):
    # lengths[k]: how long a longest rising part is that ends with the k-th number
    lengths = []
    for place, number in enumerate(numbers):
        ahead = [lengths[k] for k in range(place) if numbers[k] < number]
        lengths.append(1 + max(ahead, default=0))
    return max(lengths, default=0)


def told_pairs(pairs):
    told = [len(pairs)]
    for old, new in pairs:
        told.append(old)
        told.append(new)
    return told
