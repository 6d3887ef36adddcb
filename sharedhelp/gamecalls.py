"""The calls on games.

Each function here answers one call: it gets what the calls are made on, the call's whole numbers and its list (empty
where the call has none), and gives back the numbers that are answered. The checks stand in the order in which the
refusals are due.
"""

from sharedhelp.fair import added_in_order, dividends, potentials, rounded_shares, shares, swings
from sharedhelp.game import game_by_costs, game_by_demands, peak_hour
from sharedhelp.likeness import alike_pairs, idle_regions
from sharedhelp.newgames import dual_game, game_sum, merged_game, renamed_game, scaled_game
from sharedhelp.refusals import BadValue, NoDemands, NoGroup, UnlikeGames
from sharedhelp.rows import check_length, check_within, flat, parts_of
from sharedhelp.steady import first_dearer, shows_none_stable, stability

MOST_REGIONS = 8
MOST_HOURS = 24
GREATEST_TOLD_COST = 1_000_000_000
GREATEST_DEMAND = 1_000_000
GREATEST_DENOMINATOR = 1_000_000
GREATEST_TOLD_SHARE = 1_000_000_000_000
GREATEST_TOLD_WEIGHT = 1_000_000
GREATEST_FACTOR = 1000


def answer_game(holdings, numbers, row):
    """Fill a slot with the game that has these costs."""
    holdings.check_slot(numbers[0])
    n = numbers[1]
    check_within([n], 1, MOST_REGIONS)
    check_length(row, (1 << n) - 1)
    check_within(row, -GREATEST_TOLD_COST, GREATEST_TOLD_COST)
    holdings.put(numbers[0], game_by_costs(n, [0] + row))
    return [n]


def answer_hours(holdings, numbers, row):
    """Fill a slot with the game told by these demands."""
    holdings.check_slot(numbers[0])
    n = numbers[1]
    hours = numbers[2]
    check_within([n], 1, MOST_REGIONS)
    check_within([hours], 1, MOST_HOURS)
    check_length(row, n * hours)
    check_within(row, 0, GREATEST_DEMAND)
    demands = [row[region * hours:(region + 1) * hours] for region in range(n)]
    holdings.put(numbers[0], game_by_demands(demands))
    return [n]


def answer_cost(holdings, numbers, row):
    """The cost of one group."""
    game = holdings.game_at(numbers[0])
    if not game.is_group(numbers[1]):
        raise NoGroup()
    return [game.costs[numbers[1]]]


def answer_costs(holdings, numbers, row):
    """The cost of each group."""
    return list(holdings.game_at(numbers[0]).costs)


def answer_share(holdings, numbers, row):
    """The share of each region."""
    return flat(shares(holdings.game_at(numbers[0])))


def answer_by_order(holdings, numbers, row):
    """What each region adds in the order."""
    game = holdings.game_at(numbers[0])
    if sorted(row) != list(range(game.n)):
        raise BadValue()
    return added_in_order(game, row)


def answer_dividends(holdings, numbers, row):
    """The dividend of each group."""
    return dividends(holdings.game_at(numbers[0]))


def answer_potentials(holdings, numbers, row):
    """The potential of each group."""
    return flat(potentials(holdings.game_at(numbers[0])))


def answer_swing(holdings, numbers, row):
    """The swing of each region."""
    return flat(swings(holdings.game_at(numbers[0])))


def answer_dearer(holdings, numbers, row):
    """Whether a region ever adds more to a group with another region, and where first."""
    found = first_dearer(holdings.game_at(numbers[0]))
    if found is None:
        return [0]
    return [1] + found


def answer_stable(holdings, numbers, row):
    """Whether the shares cover, are stable, or who complains most."""
    game = holdings.game_at(numbers[0])
    check_within([numbers[1]], 1, GREATEST_DENOMINATOR)
    check_within(row, -GREATEST_TOLD_SHARE, GREATEST_TOLD_SHARE)
    check_length(row, game.n)
    return stability(game, numbers[1], row)


def answer_shows(holdings, numbers, row):
    """Whether the weights show that no shares are stable."""
    game = holdings.game_at(numbers[0])
    check_within([numbers[1]], 1, GREATEST_DENOMINATOR)
    pairs = parts_of(row, 2)
    for group, number in pairs:
        # That it is no group is -4 here, not -5.
        if not game.is_group(group):
            raise BadValue()
        check_within([number], -GREATEST_TOLD_WEIGHT, GREATEST_TOLD_WEIGHT)
    return [1 if shows_none_stable(game, numbers[1], pairs) else 0]


def answer_peak(holdings, numbers, row):
    """The peak and each region's demand in it."""
    game = holdings.game_at(numbers[0])
    if game.demands is None:
        raise NoDemands()
    hour = peak_hour(game.demands)
    return [hour] + flat([(region_demands[hour], 1) for region_demands in game.demands])


def answer_sum(holdings, numbers, row):
    """Fill a slot with the game whose costs are the sums of two games' costs."""
    first = holdings.game_at(numbers[0])
    second = holdings.game_at(numbers[1])
    holdings.check_slot(numbers[2])
    if first.n != second.n:
        raise UnlikeGames()
    holdings.put(numbers[2], game_sum(first, second))
    return [first.n]


def answer_scale(holdings, numbers, row):
    """Fill a slot with the game whose costs are a multiple of a game's costs."""
    game = holdings.game_at(numbers[0])
    holdings.check_slot(numbers[1])
    check_within([numbers[2]], -GREATEST_FACTOR, GREATEST_FACTOR)
    holdings.put(numbers[1], scaled_game(game, numbers[2]))
    return [game.n]


def answer_dual(holdings, numbers, row):
    """Fill a slot with the game in which groups cost what they add to all the others."""
    game = holdings.game_at(numbers[0])
    holdings.check_slot(numbers[1])
    holdings.put(numbers[1], dual_game(game))
    return [game.n]


def answer_rename(holdings, numbers, row):
    """Fill a slot with the game of the regions told, in their order."""
    game = holdings.game_at(numbers[0])
    holdings.check_slot(numbers[1])
    if len(row) == 0:
        raise BadValue()
    check_within(row, 0, game.n - 1)
    if len(set(row)) != len(row):
        raise BadValue()
    holdings.put(numbers[1], renamed_game(game, row))
    return [len(row)]


def answer_merge(holdings, numbers, row):
    """Fill a slot with the game in which the regions of a group count as one."""
    game = holdings.game_at(numbers[0])
    holdings.check_slot(numbers[1])
    if numbers[2] == 0 or not game.is_group(numbers[2]):
        raise NoGroup()
    merged = merged_game(game, numbers[2])
    holdings.put(numbers[1], merged)
    return [merged.n]


def answer_idle(holdings, numbers, row):
    """The regions that add 0 to every group."""
    regions = idle_regions(holdings.game_at(numbers[0]))
    return [len(regions)] + regions


def answer_alike(holdings, numbers, row):
    """The pairs of regions that are alike."""
    pairs = alike_pairs(holdings.game_at(numbers[0]))
    return [len(pairs)] + flat(pairs)


def answer_round(holdings, numbers, row):
    """The share of each region in whole units."""
    return rounded_shares(holdings.game_at(numbers[0]))


# By the number of the call: what answers it, how many whole numbers it has, whether it has a list.
GAME_CALLS = {
    0: (answer_game, 2, True),
    1: (answer_hours, 3, True),
    2: (answer_cost, 2, False),
    3: (answer_costs, 1, False),
    4: (answer_share, 1, False),
    5: (answer_by_order, 1, True),
    6: (answer_dividends, 1, False),
    7: (answer_potentials, 1, False),
    8: (answer_swing, 1, False),
    9: (answer_dearer, 1, False),
    10: (answer_stable, 2, True),
    11: (answer_shows, 2, True),
    12: (answer_peak, 1, False),
    13: (answer_sum, 3, False),
    14: (answer_scale, 3, False),
    15: (answer_dual, 2, False),
    16: (answer_rename, 2, True),
    17: (answer_merge, 3, False),
    18: (answer_idle, 1, False),
    19: (answer_alike, 1, False),
    20: (answer_round, 1, False),
}
