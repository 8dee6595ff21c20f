"""A table, and how it is read from a list of whole numbers."""

from matchedrows.refusals import NotTable

EMPTY = 0
NUMBER = 1
WORD = 2

MOST_COLUMNS = 5
MOST_ROWS = 12
MOST_BYTES = 8
BIGGEST_NUMBER = 1000000
FIRST_BYTE = 32
LAST_BYTE = 126


class Table:
    # Names and cells stay in the form in which they are told as numbers:
    # two of them are alike just when their numbers are.
    def __init__(self, names, rows):
        self.names = names
        self.rows = rows


class TableNumbers:
    def __init__(self, numbers):
        self.numbers = numbers
        self.place = 0

    def take(self, lowest, highest):
        if self.is_over():
            raise NotTable()
        number = self.numbers[self.place]
        if number < lowest or number > highest:
            raise NotTable()
        self.place += 1
        return number

    def is_over(self):
        return self.place == len(self.numbers)


def read_table(numbers):
    source = TableNumbers(numbers)
    names = read_names(source)
    row_count = source.take(0, MOST_ROWS)
    rows = [read_row(source, len(names)) for row in range(row_count)]
    if not source.is_over():
        raise NotTable()
    return Table(names, rows)


def read_names(source):
    names = []
    column_count = source.take(1, MOST_COLUMNS)
    for column in range(column_count):
        name = read_name(source)
        if name in names:
            raise NotTable()
        names.append(name)
    return names


def read_name(source):
    name = read_bytes(source)
    if not is_small_letter(name[0]):
        raise NotTable()
    for byte in name:
        if not is_small_letter(byte) and not is_digit(byte):
            raise NotTable()
    return name


def read_row(source, column_count):
    return [read_cell(source) for column in range(column_count)]


def read_cell(source):
    kind = source.take(EMPTY, WORD)
    if kind == NUMBER:
        return [NUMBER, source.take(-BIGGEST_NUMBER, BIGGEST_NUMBER)]
    if kind == WORD:
        word = read_bytes(source)
        return [WORD, len(word)] + word
    return [EMPTY]


def read_bytes(source):
    byte_count = source.take(1, MOST_BYTES)
    return [source.take(FIRST_BYTE, LAST_BYTE) for byte in range(byte_count)]


def is_small_letter(byte):
    return ord("a") <= byte <= ord("z")


def is_digit(byte):
    return ord("0") <= byte <= ord("9")


def is_empty(cell):
    return cell[0] == EMPTY
