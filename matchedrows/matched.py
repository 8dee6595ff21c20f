"""Two tables with their columns matched, and what follows for their rows."""

from matchedrows.columns import columns_cost
from matchedrows.least import LeastMatchings, matching_cost
from matchedrows.pairs import lone_numbers
from matchedrows.table import is_empty


class MatchedTables:
    def __init__(self, old, new, columns):
        self.old = old
        self.new = new
        self.columns = columns
        self.pair_costs = all_pair_costs(old, new, columns)
        self.least = LeastMatchings(self.pair_costs, len(old.rows), len(new.rows))

    def cost_of_columns(self):
        return columns_cost(self.old.names, self.new.names, self.columns)

    def cost_of_rows(self, pairs):
        return matching_cost(self.pair_costs, len(self.old.rows), len(self.new.rows), pairs)


def all_pair_costs(old, new, columns):
    old_lone = filled_counts(old, lone_numbers([pair[0] for pair in columns], len(old.names)))
    new_lone = filled_counts(new, lone_numbers([pair[1] for pair in columns], len(new.names)))
    costs = []
    for place, row in enumerate(old.rows):
        unlike = [unlike_count(row, other, columns) for other in new.rows]
        costs.append([old_lone[place] + count + filled for count, filled in zip(unlike, new_lone)])
    return costs


def filled_counts(table, columns):
    return [len([column for column in columns if not is_empty(row[column])]) for row in table.rows]


def unlike_count(old_row, new_row, columns):
    return len([old for old, new in columns if old_row[old] != new_row[new]])
