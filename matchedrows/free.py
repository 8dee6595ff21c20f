"""Free matchings of rows, in which pairs needn't rise: the first least one."""

from matchedrows.least import LONE_ROW_COST
from matchedrows.refusals import TooManyRows

MOST_FREE_ROWS = 8


class FreeMatchings:
    # costs is told by (old, taken): what the least free matchings cost of the
    # old rows from old on with the new rows that aren't taken. In taken a bit
    # stands for each new row.
    def __init__(self, pair_costs, old_count, new_count):
        if max(old_count, new_count) > MOST_FREE_ROWS:
            raise TooManyRows()
        self.pair_costs = pair_costs
        self.old_count = old_count
        self.new_count = new_count
        self.costs = {}
        for old in range(old_count, -1, -1):
            for taken in range(1 << new_count):
                self.costs[(old, taken)] = self.least_from(old, taken)

    def least_from(self, old, taken):
        left = self.rows_left(taken)
        if old == self.old_count:
            return LONE_ROW_COST * len(left)
        lone = LONE_ROW_COST + self.costs[(old + 1, taken)]
        return min([lone] + [self.cost_with(old, new, taken) for new in left])

    def rows_left(self, taken):
        return [new for new in range(self.new_count) if (taken >> new) & 1 == 0]

    def cost_with(self, old, new, taken):
        return self.pair_costs[old][new] + self.costs[(old + 1, taken | (1 << new))]

    def least_cost(self):
        return self.costs[(0, 0)]

    def first_least(self):
        pairs = []
        taken = 0
        for old in range(self.old_count):
            new = self.least_new(old, taken)
            if new is not None:
                pairs.append((old, new))
                taken = taken | (1 << new)
        return pairs

    # None if the old row is lone.
    def least_new(self, old, taken):
        for new in self.rows_left(taken):
            if self.cost_with(old, new, taken) == self.costs[(old, taken)]:
                return new
        return None
