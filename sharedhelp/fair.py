"""What regions add, and the fair shares: by orders, by dividends and by potentials, in whole units; and the swings."""

from sharedhelp.game import bit, holds, size
from sharedhelp.ratio import lowest


def factorial(n):
    """How many orders n regions have."""
    product = 1
    for factor in range(2, n + 1):
        product *= factor
    return product


def added_in_order(game, order):
    """What each region, from 0 on, adds in the order."""
    told = [0 for region in order]
    group = 0
    for region in order:
        told[region] = game.added(region, group)
        group = group | bit(region)
    return told


def share(game, region):
    """The mean, over all orders, of what the region adds."""
    total = 0
    for group in game.groups_without(region):
        before = size(group)
        # In so many orders just this group comes before the region.
        orders = factorial(before) * factorial(game.n - 1 - before)
        total += orders * game.added(region, group)
    return lowest(total, factorial(game.n))


def shares(game):
    """The share of each region."""
    return [share(game, region) for region in range(game.n)]


def rounded_shares(game):
    """Each region's share in whole units, which come to the cost of all together."""
    fractions = shares(game)
    # The denominators divide n!, so the rests times n! are whole numbers, which can be compared.
    unit = factorial(game.n)
    rests = [numerator % denominator * (unit // denominator) for numerator, denominator in fractions]
    told = [numerator // denominator for numerator, denominator in fractions]
    wanting = game.cost_of_all() - sum(told)
    # Sorting leaves equal rests in their order: the region with the less number comes first.
    by_rest = sorted(range(game.n), key=lambda region: -rests[region])
    for region in by_rest[:wanting]:
        told[region] += 1
    return told


def dividends(game):
    """The dividend of each group, from group 0 on."""
    told = list(game.costs)
    for region in range(game.n):
        # A group within another one changes its sign once for each region that it lacks:
        # so the signs come about region by region, without walking the groups within each group.
        for group in game.groups_without(region):
            told[group | bit(region)] -= told[group]
    return told


def potentials(game):
    """The potential of each group, from group 0 on."""
    # The potential of a group of k regions times k! is a whole number, so n! times each is whole, too,
    # and nothing is lost in the division.
    unit = factorial(game.n)
    whole = [0]
    for group in range(1, len(game.costs)):
        total = game.costs[group] * unit
        for region in range(game.n):
            if holds(group, region):
                total += whole[group ^ bit(region)]
        whole.append(total // size(group))
    return [lowest(number, unit) for number in whole]


def swing(game, region):
    """The mean, over all groups without the region, of what it adds."""
    groups = game.groups_without(region)
    return lowest(sum([game.added(region, group) for group in groups]), len(groups))


def swings(game):
    """The swing of each region."""
    return [swing(game, region) for region in range(game.n)]
