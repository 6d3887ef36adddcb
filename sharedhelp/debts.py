"""Debts between houses, and what transfers do to the houses' balances."""

HOUSES = 10


def gains(transfers):
    """For each house what it gets less what it pays by the transfers: who pays, whom, how much."""
    told = [0 for house in range(HOUSES)]
    for payer, receiver, amount in transfers:
        told[payer] -= amount
        told[receiver] += amount
    return told


class Debts:
    """Who owes whom how much."""

    def __init__(self):
        # By who owes and whom; the keys stay in the order in which the debts were first told.
        self.amounts = {}

    def owe(self, debtor, creditor, amount):
        """The debtor owes the creditor so much more; what it owes the creditor now."""
        owed = self.amounts.get((debtor, creditor), 0) + amount
        self.amounts[(debtor, creditor)] = owed
        return owed

    def forget_all(self):
        """From now on there are no debts."""
        self.amounts = {}

    def triples(self):
        """Each debt: who owes, whom, how much; in the order in which they were first told."""
        return [(pair[0], pair[1], owed) for pair, owed in self.amounts.items()]

    def balances(self):
        """The balance of each house."""
        # If each paid just what it owes, each would gain its balance.
        return gains(self.triples())
