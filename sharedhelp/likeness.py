"""Regions that add nothing anywhere, and regions of which one may stand for the other."""

from sharedhelp.game import holds


def is_idle(game, region):
    """Whether the region adds 0 to every group."""
    return all([game.added(region, group) == 0 for group in game.groups_without(region)])


def idle_regions(game):
    """The regions that add 0 to every group, rising."""
    return [region for region in range(game.n) if is_idle(game, region)]


def are_alike(game, i, j):
    """Whether to every group without both adding i makes the same cost as adding j."""
    groups = [group for group in game.groups_without(i) if not holds(group, j)]
    return all([game.added(i, group) == game.added(j, group) for group in groups])


def alike_pairs(game):
    """The pairs of regions that are alike, by rising i, then j, where i is less than j."""
    told = []
    for i in range(game.n):
        told.extend([(i, j) for j in range(i + 1, game.n) if are_alike(game, i, j)])
    return told
