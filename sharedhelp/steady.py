"""Shares that no group can better: where joining grows dearer, what is stable, what shows that nothing is."""

from sharedhelp.game import bit, holds
from sharedhelp.ratio import lowest


def dearer_group(game, i, j):
    """The least group, without both, to which i adds less than to the group with j; None if there is none."""
    for group in game.groups_without(i):
        if not holds(group, j) and game.added(i, group | bit(j)) > game.added(i, group):
            return group
    return None


def first_dearer(game):
    """The first i, j and group such that i adds more to the group with j than without; None if there are none."""
    for i in range(game.n):
        for j in range(game.n):
            if i != j:
                group = dearer_group(game, i, j)
                if group is not None:
                    return [i, j, group]
    return None


def paid_by(group, numbers):
    """What the regions of the group pay together."""
    return sum([number for region, number in enumerate(numbers) if holds(group, region)])


def covers(game, d, numbers):
    """Whether the shares to pay, each number over d, come to the cost of all together."""
    return sum(numbers) == d * game.cost_of_all()


def complaints(game, d, numbers):
    """Each group's complaint, from group 0 on, times d: so they stay whole numbers."""
    return [paid_by(group, numbers) - d * cost for group, cost in enumerate(game.costs)]


def stability(game, d, numbers):
    """2 if the shares don't cover, 1 if they're stable, else 0, the group that complains most, its complaint."""
    if not covers(game, d, numbers):
        return [2]
    told = complaints(game, d, numbers)
    greatest = max(told)
    if greatest <= 0:
        return [1]
    return [0, told.index(greatest)] + list(lowest(greatest, d))


def weight_of(region, pairs):
    """The sum of the weights, times d, of the pairs whose group the region is in."""
    return sum([number for group, number in pairs if holds(group, region)])


def shows_none_stable(game, d, pairs):
    """Whether the pairs of a group and its weight times d show that no shares are stable."""
    if any([number < 0 for group, number in pairs]):
        return False
    if any([weight_of(region, pairs) != d for region in range(game.n)]):
        return False
    total = sum([number * game.costs[group] for group, number in pairs])
    return total < d * game.cost_of_all()
