"""Calls and tables written plainly for the tests, and answers taken apart."""

from matchedrows.twotables import answers

LIMIT = 10 ** 18
CALLS = {"tables": 0, "cols": 1, "least": 2, "kth": 3, "cost": 4, "pair": 5}


def line(*calls):
    """One list of numbers: each call a name, then whole numbers and lists."""
    numbers = []
    for call in calls:
        numbers.append(CALLS[call[0]])
        for handed in call[1:]:
            if isinstance(handed, int):
                numbers.append(handed)
            else:
                numbers.append(len(handed))
                numbers.extend(handed)
    return numbers


def split(told):
    """The answers of a line, a list each."""
    found = []
    place = 0
    while place < len(told):
        found.append(told[place + 1:place + 1 + told[place]])
        place += 1 + told[place]
    return found


def ask(*calls):
    """The answers to a line of calls, a list each."""
    return split(answers(line(*calls)))


def cell(value):
    """None is an empty cell, an int a number, a str a word."""
    if value is None:
        return [0]
    if isinstance(value, int):
        return [1, value]
    return [2, len(value)] + [ord(sign) for sign in value]


def table(names, rows):
    numbers = [len(names)]
    for name in names:
        numbers += [len(name)] + [ord(sign) for sign in name]
    numbers.append(len(rows))
    for row in rows:
        for value in row:
            numbers += cell(value)
    return numbers


def flat(pairs):
    return [number for pair in pairs for number in pair]


def told(pairs):
    return [len(pairs)] + flat(pairs)


def changed_in_each_place(numbers, values):
    """The list again and again, each time with one of the values in one place."""
    return [
        numbers[:place] + [value] + numbers[place + 1:]
        for place in range(len(numbers)) for value in values]


class Guarded(list):
    """A list that can't be changed, not for a while either."""

    def refuse(self, *handed, **named):
        raise AssertionError("what is handed in is changed")

    append = clear = extend = insert = pop = remove = reverse = sort = refuse
    __setitem__ = __delitem__ = __iadd__ = __imul__ = refuse
