"""What a call can be refused for, one error class each."""


class NoTables(Exception):
    pass


class NotTable(Exception):
    pass


class NotColumnPairs(Exception):
    pass


class NotRowPairs(Exception):
    pass


class NotThere(Exception):
    pass


class NotKeys(Exception):
    pass


class TooManyRows(Exception):
    pass
