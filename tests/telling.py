"""Calls as the tests write them, put into the one list; and the answers taken out of the other."""

from sharedhelp.regions import answers

LEAST = -9223372036854775808
MOST = 9223372036854775807


def game(s, n, costs):
    return [0, s, n, len(costs)] + costs


def hours(s, n, h, demands):
    return [1, s, n, h, len(demands)] + demands


def cost(s, g):
    return [2, s, g]


def costs(s):
    return [3, s]


def share(s):
    return [4, s]


def by_order(s, order):
    return [5, s, len(order)] + order


def dividends(s):
    return [6, s]


def potentials(s):
    return [7, s]


def swing(s):
    return [8, s]


def dearer(s):
    return [9, s]


def stable(s, d, shares):
    return [10, s, d, len(shares)] + shares


def shows(s, d, weights):
    return [11, s, d, len(weights)] + weights


def peak(s):
    return [12, s]


def sums(a, b, to):
    return [13, a, b, to]


def scale(s, to, k):
    return [14, s, to, k]


def dual(s, to):
    return [15, s, to]


def rename(s, to, regions):
    return [16, s, to, len(regions)] + regions


def merge(s, to, g):
    return [17, s, to, g]


def idle(s):
    return [18, s]


def alike(s):
    return [19, s]


def rounded(s):
    return [20, s]


def owe(a, b, n):
    return [21, a, b, n]


def debts():
    return [22]


def balances():
    return [23]


def settle():
    return [24]


def fewest():
    return [25]


def check(transfers):
    return [26, len(transfers)] + transfers


def clear():
    return [27]


def owing(wanted, hub):
    """Calls of owe that give the houses these balances, which come to 0: all debts are with the hub."""
    told = []
    for house, balance in enumerate(wanted):
        if house != hub and balance < 0:
            told.append(owe(house, hub, -balance))
        if house != hub and balance > 0:
            told.append(owe(hub, house, balance))
    return told


def parted(told):
    """One list for each call out of the list of all answers."""
    parts = []
    at = 0
    while at < len(told):
        end = at + 1 + told[at]
        if end > len(told):
            raise AssertionError("the last answer is cut off")
        parts.append(told[at + 1:end])
        at = end
    return parts


def ask(*calls):
    """The answer of each of the calls, made on one new object."""
    line = [number for call in calls for number in call]
    parts = parted(answers(line))
    if len(parts) != len(calls):
        raise AssertionError("not one answer for each call")
    return parts


def ask_last(*calls):
    """The answer of the last of the calls."""
    return ask(*calls)[-1]
