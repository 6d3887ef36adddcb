"""Games made from games. They are told by costs alone, whatever the games were told by that they are made from."""

from sharedhelp.game import bit, game_by_costs, holds, row_sums


def game_sum(first, second):
    """The game whose costs are the sums of those of two games with the same number of regions."""
    return game_by_costs(first.n, row_sums(first.costs, second.costs))


def scaled_game(game, factor):
    """The game whose costs are so many times these."""
    return game_by_costs(game.n, [factor * cost for cost in game.costs])


def dual_game(game):
    """The game in which a group costs the cost of all less the cost of all without the group."""
    # The groups rise, so those that they leave out fall: all without the group stands at the same place from behind.
    return game_by_costs(game.n, [game.cost_of_all() - cost for cost in reversed(game.costs)])


def game_of_blocks(game, blocks):
    """The game whose region i stands for all regions of the group at place i of the blocks."""
    groups = [0]
    for block in blocks:
        groups = groups + [group | block for group in groups]
    return game_by_costs(len(blocks), [game.costs[group] for group in groups])


def renamed_game(game, regions):
    """The game whose region i is the region told at place i."""
    return game_of_blocks(game, [bit(region) for region in regions])


def merged_game(game, merged):
    """The game in which the regions of a group that isn't nobody count as one, the least of them."""
    blocks = []
    for region in range(game.n):
        if not holds(merged, region):
            blocks.append(bit(region))
        elif merged not in blocks:
            blocks.append(merged)
    return game_of_blocks(game, blocks)
