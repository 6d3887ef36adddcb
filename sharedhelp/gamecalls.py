"""The calls on games.

Each function here answers one call: it gets what the calls are made on, the call's whole numbers and its list (empty
where the call has none), and gives back the numbers that are answered. The checks stand in the order in which the
refusals are due.
"""

from sharedhelp.fair import added_in_order, dividends, potentials, shares, swings
from sharedhelp.game import game_by_costs, game_by_demands, game_sum, peak_hour
from sharedhelp.ratio import flat
from sharedhelp.refusals import BadValue, NoDemands, NoGroup, UnlikeGames
from sharedhelp.steady import first_dearer, shows_none_stable, stability

MOST_REGIONS = 8
MOST_HOURS = 24
GREATEST_TOLD_COST = 1_000_000_000
GREATEST_DEMAND = 1_000_000
GREATEST_DENOMINATOR = 1_000_000
GREATEST_TOLD_SHARE = 1_000_000_000_000
GREATEST_TOLD_WEIGHT = 1_000_000


def check_within(numbers, least, most):
    """Refuse numbers one of which isn't from the least to the most."""
    for number in numbers:
        if not least <= number <= most:
            raise BadValue()


def check_length(row, length):
    """Refuse a list that hasn't so many numbers."""
    if len(row) != length:
        raise BadValue()


def answer_game(holdings, numbers, row):
    """Fill a slot with the game that has these costs."""
    holdings.check_slot(numbers[0])
    n = numbers[1]
    check_within([n], 1, MOST_REGIONS)
    check_length(row, (1 << n) - 1)
    check_within(row, -GREATEST_TOLD_COST, GREATEST_TOLD_COST)
    holdings.put(numbers[0], game_by_costs(n, [0] + row))
    return [n]


def answer_hours(holdings, numbers, row):
    """Fill a slot with the game told by these demands."""
    holdings.check_slot(numbers[0])
    n = numbers[1]
    hours = numbers[2]
    check_within([n], 1, MOST_REGIONS)
    check_within([hours], 1, MOST_HOURS)
    check_length(row, n * hours)
    check_within(row, 0, GREATEST_DEMAND)
    demands = [row[region * hours:(region + 1) * hours] for region in range(n)]
    holdings.put(numbers[0], game_by_demands(demands))
    return [n]


def answer_cost(holdings, numbers, row):
    """The cost of one group."""
    game = holdings.game_at(numbers[0])
    if not game.is_group(numbers[1]):
        raise NoGroup()
    return [game.costs[numbers[1]]]


def answer_costs(holdings, numbers, row):
    """The cost of each group."""
    return list(holdings.game_at(numbers[0]).costs)


def answer_share(holdings, numbers, row):
    """The share of each region."""
    return flat(shares(holdings.game_at(numbers[0])))


def answer_by_order(holdings, numbers, row):
    """What each region adds in the order."""
    game = holdings.game_at(numbers[0])
    if sorted(row) != list(range(game.n)):
        raise BadValue()
    return added_in_order(game, row)


def answer_dividends(holdings, numbers, row):
    """The dividend of each group."""
    return dividends(holdings.game_at(numbers[0]))


def answer_potentials(holdings, numbers, row):
    """The potential of each group."""
    return flat(potentials(holdings.game_at(numbers[0])))


def answer_swing(holdings, numbers, row):
    """The swing of each region."""
    return flat(swings(holdings.game_at(numbers[0])))


def answer_dearer(holdings, numbers, row):
    """Whether a region ever adds more to a group with another region, and where first."""
    found = first_dearer(holdings.game_at(numbers[0]))
    if found is None:
        return [0]
    return [1] + found


def answer_stable(holdings, numbers, row):
    """Whether the shares cover, are stable, or who complains most."""
    game = holdings.game_at(numbers[0])
    check_within([numbers[1]], 1, GREATEST_DENOMINATOR)
    check_within(row, -GREATEST_TOLD_SHARE, GREATEST_TOLD_SHARE)
    check_length(row, game.n)
    return stability(game, numbers[1], row)


def pairs_of(row):
    """The list's numbers two by two."""
    if len(row) % 2 != 0:
        raise BadValue()
    return [(row[place], row[place + 1]) for place in range(0, len(row), 2)]


def answer_shows(holdings, numbers, row):
    """Whether the weights show that no shares are stable."""
    game = holdings.game_at(numbers[0])
    check_within([numbers[1]], 1, GREATEST_DENOMINATOR)
    pairs = pairs_of(row)
    for group, number in pairs:
        # That it is no group is -4 here, not -5.
        if not game.is_group(group):
            raise BadValue()
        check_within([number], -GREATEST_TOLD_WEIGHT, GREATEST_TOLD_WEIGHT)
    return [1 if shows_none_stable(game, numbers[1], pairs) else 0]


def answer_peak(holdings, numbers, row):
    """The peak and each region's demand in it."""
    game = holdings.game_at(numbers[0])
    if game.demands is None:
        raise NoDemands()
    hour = peak_hour(game.demands)
    return [hour] + flat([(region_demands[hour], 1) for region_demands in game.demands])


def answer_sum(holdings, numbers, row):
    """Fill a slot with the game whose costs are the sums of two games' costs."""
    first = holdings.game_at(numbers[0])
    second = holdings.game_at(numbers[1])
    holdings.check_slot(numbers[2])
    if first.n != second.n:
        raise UnlikeGames()
    holdings.put(numbers[2], game_sum(first, second))
    return [first.n]


# By the number of the call: what answers it, how many whole numbers it has, whether it has a list.
GAME_CALLS = {
    0: (answer_game, 2, True),
    1: (answer_hours, 3, True),
    2: (answer_cost, 2, False),
    3: (answer_costs, 1, False),
    4: (answer_share, 1, False),
    5: (answer_by_order, 1, True),
    6: (answer_dividends, 1, False),
    7: (answer_potentials, 1, False),
    8: (answer_swing, 1, False),
    9: (answer_dearer, 1, False),
    10: (answer_stable, 2, True),
    11: (answer_shows, 2, True),
    12: (answer_peak, 1, False),
    13: (answer_sum, 3, False),
}
