"""What the document's words ask for, gone through word by word: slow, and apart from the program."""

import itertools
from fractions import Fraction


def uneven_costs(n, seed):
    """Costs, below 0 too, that follow no rule that a share could profit by."""
    told = []
    state = seed
    for _ in range(2 ** n - 1):
        state = (state * 1103515245 + 12345) % 2 ** 31
        told.append((state >> 8) % 2001 - 1000)
    return told


def added_by_words(told, order):
    """What each region adds in the order, from the costs of groups 1, 2, 3, ..."""
    added = [0] * len(order)
    for place, region in enumerate(order):
        before = sum(2 ** other for other in order[:place])
        after = before + 2 ** region
        added[region] = told[after - 1] - (told[before - 1] if before else 0)
    return added


def shares_by_words(n, told):
    """The mean over all orders, order by order."""
    orders = list(itertools.permutations(range(n)))
    every = [added_by_words(told, order) for order in orders]
    return [Fraction(sum(added[region] for added in every), len(orders)) for region in range(n)]


def rounded_by_words(n, told):
    """Each share rounded down, and 1 more for as many as are wanting, those with the greatest rests."""
    shares = shares_by_words(n, told)
    units = [share.numerator // share.denominator for share in shares]
    rests = [share - unit for share, unit in zip(shares, units)]
    wanting = told[-1] - sum(units)
    while wanting > 0:
        chosen = rests.index(max(rests))
        units[chosen] += 1
        rests[chosen] = -1
        wanting -= 1
    return units


def gains_by_words(transfers):
    """What each house gets less what it pays."""
    return [sum(n for _, whom, n in transfers if whom == house) - sum(n for who, _, n in transfers if who == house)
            for house in range(10)]


def all_partings(houses):
    """Every way to part the houses into groups; groups by their least house, houses rising."""
    if not houses:
        return [[]]
    first, rest = houses[0], houses[1:]
    told = []
    for count in range(len(rest) + 1):
        for others in itertools.combinations(rest, count):
            left = [house for house in rest if house not in others]
            told += [[[first, *others]] + parting for parting in all_partings(left)]
    return told


def comes_first(one, other):
    """Whether of two partings with as many groups the one is told first."""
    for group, other_group in zip(one, other):
        if group != other_group:
            return min(set(group) ^ set(other_group)) in group
    return False


def parting_by_words(balances):
    """Of all partings into groups whose balances come to 0 those with the most groups; of these the one told first."""
    houses = [house for house in range(10) if balances[house] != 0]
    fit = [parting for parting in all_partings(houses)
           if all(sum(balances[house] for house in group) == 0 for group in parting)]
    most = max(len(parting) for parting in fit)
    chosen = None
    for parting in fit:
        if len(parting) == most and (chosen is None or comes_first(parting, chosen)):
            chosen = parting
    return chosen


def transfers_by_words(parting, balances):
    """The transfers told by the parting."""
    told = []
    for group in parting:
        for place, house in enumerate(group[:-1]):
            s = sum(balances[other] for other in group[:place + 1])
            h = group[place + 1]
            if s < 0:
                told.append((house, h, -s))
            if s > 0:
                told.append((h, house, s))
    return told
