"""The calls on one object that holds two tables, and their answers."""

from matchedrows.columns import same_name_pairs
from matchedrows.free import FreeMatchings
from matchedrows.keyed import pairs_by_keys, read_keys
from matchedrows.matched import MatchedTables
from matchedrows.pairs import is_there, read_column_pairs, read_row_pairs, told_pairs
from matchedrows.patch import told_patch
from matchedrows.refusals import NoTables, NotColumnPairs, NotKeys, NotRowPairs, NotTable, NotThere, TooManyRows
from matchedrows.rising import first_longest_part, out_of_order
from matchedrows.surely import maybe_pairs, surely_pairs
from matchedrows.table import read_table


class TwoTables:
    def __init__(self):
        self.held = None

    def matched(self):
        if self.held is None:
            raise NoTables()
        return self.held

    # What is held is replaced whole, and only when nothing can be refused any more.
    def hold(self, old, new, columns):
        self.held = MatchedTables(old, new, columns)


def answer_tables(both, handed):
    old = read_table(handed[0])
    new = read_table(handed[1])
    columns = same_name_pairs(old.names, new.names)
    both.hold(old, new, columns)
    return [len(old.rows), len(new.rows), len(columns)]


def answer_cols(both, handed):
    matched = both.matched()
    old = matched.old
    new = matched.new
    both.hold(old, new, read_column_pairs(handed[0], len(old.names), len(new.names)))
    return [both.matched().cost_of_columns()]


def answer_least(both, handed):
    least = both.matched().least
    return [least.least_cost(), least.how_many()] + told_pairs(least.at_place(0))


def answer_kth(both, handed):
    least = both.matched().least
    place = handed[0]
    if place < 0:
        raise NotThere()
    if place >= least.how_many():
        return [0]
    return [1] + told_pairs(least.at_place(place))


def answer_cost(both, handed):
    matched = both.matched()
    pairs = read_row_pairs(handed[0], len(matched.old.rows), len(matched.new.rows))
    cost = matched.cost_of_rows(pairs)
    return [cost, cost - matched.least.least_cost()]


def answer_pair(both, handed):
    matched = both.matched()
    old = handed[0]
    new = handed[1]
    if not is_there(old, len(matched.old.rows)) or not is_there(new, len(matched.new.rows)):
        raise NotThere()
    return [matched.pair_costs[old][new]]


def answer_surely(both, handed):
    return told_pairs(surely_pairs(both.matched().least))


def answer_maybe(both, handed):
    return told_pairs(maybe_pairs(both.matched().least))


def answer_free(both, handed):
    matched = both.matched()
    free = FreeMatchings(matched.pair_costs, len(matched.old.rows), len(matched.new.rows))
    pairs = free.first_least()
    return [free.least_cost(), out_of_order([new for old, new in pairs])] + told_pairs(pairs)


def answer_keyed(both, handed):
    matched = both.matched()
    keys = read_keys(handed[0], matched.columns)
    pairs = pairs_by_keys(matched.old.rows, matched.new.rows, keys)
    part = first_longest_part(pairs)
    return told_pairs(pairs) + [len(pairs) - len(part), matched.cost_of_rows(part)] + told_pairs(part)


def answer_patch(both, handed):
    matched = both.matched()
    cost = matched.cost_of_columns() + matched.least.least_cost()
    first = matched.least.at_place(0)
    return [cost] + told_patch(matched.old, matched.new, matched.columns, first)


def answer_rank(both, handed):
    matched = both.matched()
    pairs = read_row_pairs(handed[0], len(matched.old.rows), len(matched.new.rows))
    if matched.cost_of_rows(pairs) > matched.least.least_cost():
        return [0]
    return [1, matched.least.place_of(pairs)]


# By the calls' numbers: what answers them, and how many whole numbers and
# how many lists are handed to each.
ANSWERERS = (
    answer_tables, answer_cols, answer_least, answer_kth, answer_cost, answer_pair,
    answer_surely, answer_maybe, answer_free, answer_keyed, answer_patch, answer_rank)
NUMBER_COUNTS = (0, 0, 0, 1, 0, 2, 0, 0, 0, 0, 0, 0)
LIST_COUNTS = (2, 1, 0, 0, 1, 0, 0, 0, 0, 1, 0, 1)


def answer_or_refusal(both, call, handed):
    try:
        return ANSWERERS[call](both, handed)
    except NotTable:
        return [-1]
    except NotColumnPairs:
        return [-2]
    except NotKeys:
        return [-2]
    except NotRowPairs:
        return [-3]
    except NotThere:
        return [-4]
    except TooManyRows:
        return [-6]
    except NoTables:
        return [-8]


def split_calls(calls):
    split = []
    place = 0
    while place < len(calls):
        call = calls[place]
        end = place + 1 + NUMBER_COUNTS[call]
        handed = calls[place + 1:end]
        for k in range(LIST_COUNTS[call]):
            start = end + 1
            end = start + calls[end]
            handed.append(calls[start:end])
        split.append((call, handed))
        place = end
    return split


def answers(calls):
    both = TwoTables()
    told = []
    for call, handed in split_calls(calls):
        answer = answer_or_refusal(both, call, handed)
        told.append(len(answer))
        told.extend(answer)
    return told
