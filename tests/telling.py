"""Calls as the tests write them, put into the one list; and the answers taken out of the other."""

from sharedhelp.regions import answers

LEAST = -9223372036854775808
MOST = 9223372036854775807


def game(s, n, costs):
    return [0, s, n, len(costs)] + costs


def hours(s, n, h, demands):
    return [1, s, n, h, len(demands)] + demands


def cost(s, g):
    return [2, s, g]


def costs(s):
    return [3, s]


def share(s):
    return [4, s]


def by_order(s, order):
    return [5, s, len(order)] + order


def dividends(s):
    return [6, s]


def potentials(s):
    return [7, s]


def swing(s):
    return [8, s]


def dearer(s):
    return [9, s]


def stable(s, d, shares):
    return [10, s, d, len(shares)] + shares


def shows(s, d, weights):
    return [11, s, d, len(weights)] + weights


def peak(s):
    return [12, s]


def sums(a, b, to):
    return [13, a, b, to]


def parted(told):
    """One list for each call out of the list of all answers."""
    parts = []
    at = 0
    while at < len(told):
        end = at + 1 + told[at]
        if end > len(told):
            raise AssertionError("the last answer is cut off")
        parts.append(told[at + 1:end])
        at = end
    return parts


def ask(*calls):
    """The answer of each of the calls, made on one new object."""
    line = [number for call in calls for number in call]
    parts = parted(answers(line))
    if len(parts) != len(calls):
        raise AssertionError("not one answer for each call")
    return parts


def ask_last(*calls):
    """The answer of the last of the calls."""
    return ask(*calls)[-1]
