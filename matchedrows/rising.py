"""Numbers that rise, and longest rising parts."""


def rises(numbers):
    for place in range(1, len(numbers)):
        if numbers[place - 1] >= numbers[place]:
            return False
    return True


# For each number, how long a longest rising part is that begins with it.
def rising_lengths(numbers):
    lengths = [0] * len(numbers)
    for place in range(len(numbers) - 1, -1, -1):
        behind = [lengths[k] for k in range(place + 1, len(numbers)) if numbers[k] > numbers[place]]
        lengths[place] = 1 + max(behind, default=0)
    return lengths


def longest_rising(numbers):
    return max(rising_lengths(numbers), default=0)


def out_of_order(numbers):
    return len(numbers) - longest_rising(numbers)


# The pairs are told by old rows, so the first of the longest parts is found by
# taking each pair as soon as a longest part can go on with it.
def first_longest_part(pairs):
    lengths = rising_lengths([new for old, new in pairs])
    wanted = max(lengths, default=0)
    part = []
    for place, pair in enumerate(pairs):
        if lengths[place] == wanted and (len(part) == 0 or part[-1][1] < pair[1]):
            part.append(pair)
            wanted -= 1
    return part
