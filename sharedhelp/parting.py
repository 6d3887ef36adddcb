"""The parting of the houses into as many groups as can be, and the transfers that are told by it.

Some of the houses together are a set here, told by a number in which an earlier house has a greater bit. So of two
sets the one that has the least house in which they differ, and so comes first, is the one with the greater number.
"""


def sums_of_sets(balances):
    """The sum of the balances of each set, from the empty one on."""
    sums = [0]
    for balance in reversed(balances):
        sums = sums + [total + balance for total in sums]
    return sums


def most_groups(sums):
    """For each set into how many groups whose balances come to 0 it can be parted at most.

    Of a set whose own balances don't come to 0 it is the most such groups that lie apart within it.
    """
    houses = [1 << place for place in range(len(sums).bit_length() - 1)]
    most = [0]
    for whole in range(1, len(sums)):
        # Houses can be taken in an order in which group comes behind group: then just at the end of a group
        # the balances so far come to 0. So it is enough to ask which house is taken last.
        before = max([most[whole ^ house] for house in houses if whole & house != 0])
        most.append(before + 1 if sums[whole] == 0 else before)
    return most


def first_group(left, sums, most):
    """The group told first of those by which the set that's left is parted into the most groups."""
    # Falling from all that's left; the first one found has the least house, since its group is among those sought.
    group = left
    while sums[group] != 0 or most[left ^ group] + 1 != most[left]:
        group = (group - 1) & left
    return group


def houses_of(group, houses):
    """The houses that are in the group, rising."""
    greatest = 1 << len(houses)
    return [house for place, house in enumerate(houses, start=1) if group & (greatest >> place) != 0]


def parting(balances):
    """The groups of the parting, each as its houses, rising."""
    houses = [house for house, balance in enumerate(balances) if balance != 0]
    sums = sums_of_sets([balances[house] for house in houses])
    most = most_groups(sums)
    left = len(sums) - 1
    groups = []
    while left != 0:
        group = first_group(left, sums, most)
        groups.append(houses_of(group, houses))
        left = left ^ group
    return groups


def transfers_in_group(group, balances):
    """The transfers told in one group: who pays, whom, how much."""
    told = []
    total = 0
    for house, after in zip(group, group[1:]):
        # It never comes to 0 ahead of the last house, or the group could be parted there.
        total += balances[house]
        if total < 0:
            told.append((house, after, -total))
        else:
            told.append((after, house, total))
    return told


def transfers_of_parting(groups, balances):
    """The transfers told, group after group: who pays, whom, how much."""
    told = []
    for group in groups:
        told.extend(transfers_in_group(group, balances))
    return told


def settling_transfers(balances):
    """The transfers told for these balances."""
    return transfers_of_parting(parting(balances), balances)
