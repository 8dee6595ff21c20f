"""Which pairs are in all least matchings, and which are in some."""


def surely_pairs(least):
    begun = beginnings(least)
    return [pair for pair in sorted(begun) if begun[pair] * least.ways_behind(pair) == least.how_many()]


def maybe_pairs(least):
    return sorted(beginnings(least))


# For each pair that is in a least matching: how many ways there are in which
# least matchings begin, up to this pair. Pairs rise, so that all ways to a pair
# are known by the time that what comes behind it is looked for.
def beginnings(least):
    begun = {}
    for first in least.first_pairs(0, 0):
        begun[first] = 1
    for old in range(least.old_count):
        for new in range(least.new_count):
            ways = begun.get((old, new), 0)
            if ways > 0:
                for pair in least.first_pairs(old + 1, new + 1):
                    begun[pair] = begun.get(pair, 0) + ways
    return begun
