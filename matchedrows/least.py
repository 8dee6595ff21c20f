"""The least matchings of rows: what they cost, how many there are, each by its place."""

LONE_ROW_COST = 3


def matching_cost(pair_costs, old_count, new_count, pairs):
    lone = old_count + new_count - 2 * len(pairs)
    return LONE_ROW_COST * lone + sum([pair_costs[old][new] for old, new in pairs])


class LeastMatchings:
    # costs and ways are told by (old, new): what the least matchings cost, and
    # how many they are, of the old rows from old on with the new rows from new on.
    # Each matching is told apart by its first pair, so that none is counted twice.
    def __init__(self, pair_costs, old_count, new_count):
        self.pair_costs = pair_costs
        self.old_count = old_count
        self.new_count = new_count
        self.costs = {}
        self.ways = {}
        for old in range(old_count, -1, -1):
            for new in range(new_count, -1, -1):
                self.weigh(old, new)

    def weigh(self, old, new):
        least = LONE_ROW_COST * (self.old_count - old + self.new_count - new)
        ways = 1
        for first_old in range(old, self.old_count):
            for first_new in range(new, self.new_count):
                cost = self.cost_by_first(old, new, first_old, first_new)
                if cost < least:
                    least = cost
                    ways = 0
                if cost == least:
                    ways += self.ways[(first_old + 1, first_new + 1)]
        self.costs[(old, new)] = least
        self.ways[(old, new)] = ways

    def cost_by_first(self, old, new, first_old, first_new):
        lone = first_old - old + first_new - new
        behind = self.costs[(first_old + 1, first_new + 1)]
        return LONE_ROW_COST * lone + self.pair_costs[first_old][first_new] + behind

    def ways_behind(self, pair):
        return self.ways[(pair[0] + 1, pair[1] + 1)]

    def least_cost(self):
        return self.costs[(0, 0)]

    def how_many(self):
        return self.ways[(0, 0)]

    # With which pairs the least matchings of the rows from old and new on begin, in order.
    def first_pairs(self, old, new):
        firsts = []
        for first_old in range(old, self.old_count):
            for first_new in range(new, self.new_count):
                if self.cost_by_first(old, new, first_old, first_new) == self.costs[(old, new)]:
                    firsts.append((first_old, first_new))
        return firsts

    # The place is to be below how_many().
    def at_place(self, place):
        pairs = []
        step = self.step_to(0, 0, place)
        while step is not None:
            pairs.append((step[0], step[1]))
            step = self.step_to(step[0] + 1, step[1] + 1, step[2])
        return pairs

    # The old row, the new row, and the place among the least matchings
    # that begin with this pair; None if no pair is left.
    def step_to(self, old, new, place):
        ahead = 0
        for first in self.first_pairs(old, new):
            ways = self.ways_behind(first)
            if place < ahead + ways:
                return (first[0], first[1], place - ahead)
            ahead += ways
        return None

    # The matching is to be a least one. All that have one more pair come ahead
    # of it, too: hence the step behind its last pair.
    def place_of(self, pairs):
        place = 0
        old = 0
        new = 0
        for pair in pairs + [(self.old_count, self.new_count)]:
            place += self.ways_ahead(old, new, pair)
            old = pair[0] + 1
            new = pair[1] + 1
        return place

    def ways_ahead(self, old, new, pair):
        ahead = 0
        for first in self.first_pairs(old, new):
            if first == pair:
                return ahead
            ahead += self.ways_behind(first)
        return ahead
