"""Games: the cost of every group of regions, where a group is told by the sum of 2^i over its regions i."""


def bit(region):
    """The group of this one region."""
    return 1 << region


def holds(group, region):
    """Whether the region is in the group."""
    return group & bit(region) != 0


def size(group):
    """How many regions the group has."""
    count = 0
    while group > 0:
        count += group & 1
        group = group >> 1
    return count


class Game:
    """A game of n regions, which is not changed once it is made.

    costs has the cost of each group from group 0 on. demands has for each region its demands by hours, or is
    None if the game isn't told by demands.
    """

    def __init__(self, n, costs, demands):
        self.n = n
        self.costs = costs
        self.demands = demands

    def is_group(self, number):
        """Whether the number tells a group of this game."""
        return 0 <= number < len(self.costs)

    def cost_of_all(self):
        """What all regions together cost."""
        return self.costs[len(self.costs) - 1]

    def added(self, region, group):
        """What the region adds to a group without it."""
        return self.costs[group | bit(region)] - self.costs[group]

    def groups_without(self, region):
        """The groups that the region is not in, rising."""
        return [group for group in range(len(self.costs)) if not holds(group, region)]


def game_by_costs(n, costs):
    """The game of n regions with these costs, from group 0 on."""
    return Game(n, costs, None)


def row_sums(first, second):
    """The sums of two rows of the same length, place by place."""
    return [a + b for a, b in zip(first, second)]


def game_by_demands(demands):
    """The game told by the demands by hours of each region."""
    totals = [[0 for demand in demands[0]]]
    for row in demands:
        # Region i's turn doubles the groups: those with it stand 2^i places behind those without it.
        totals = totals + [row_sums(total, row) for total in totals]
    return Game(len(demands), [max(total) for total in totals], demands)


def peak_hour(demands):
    """The first hour in which all regions together have their greatest demand."""
    totals = [0 for demand in demands[0]]
    for row in demands:
        totals = row_sums(totals, row)
    return totals.index(max(totals))
