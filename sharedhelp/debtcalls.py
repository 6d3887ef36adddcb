"""The calls on debts, in the form of the calls on games."""

from sharedhelp.debts import HOUSES, gains
from sharedhelp.parting import parting, settling_transfers, transfers_of_parting
from sharedhelp.refusals import BadValue
from sharedhelp.rows import check_within, flat, parts_of

GREATEST_DEBT_TOLD = 1_000_000_000
GREATEST_TRANSFER = 1_000_000_000_000


def check_houses(a, b):
    """Refuse two numbers that are not two houses."""
    check_within([a, b], 0, HOUSES - 1)
    if a == b:
        raise BadValue()


def answer_owe(holdings, numbers, row):
    """One house owes another one more."""
    check_houses(numbers[0], numbers[1])
    check_within([numbers[2]], 1, GREATEST_DEBT_TOLD)
    return [holdings.debts.owe(numbers[0], numbers[1], numbers[2])]


def answer_debts(holdings, numbers, row):
    """The debts, in the order in which they were first told."""
    triples = holdings.debts.triples()
    return [len(triples)] + flat(triples)


def answer_balances(holdings, numbers, row):
    """The balance of each house."""
    return holdings.debts.balances()


def answer_settle(holdings, numbers, row):
    """The transfers told."""
    transfers = settling_transfers(holdings.debts.balances())
    return [len(transfers)] + flat(transfers)


def answer_fewest(holdings, numbers, row):
    """How many transfers are told, and the parting."""
    balances = holdings.debts.balances()
    groups = parting(balances)
    transfers = transfers_of_parting(groups, balances)
    return [len(transfers), len(groups)] + flat([[len(group)] + group for group in groups])


def answer_check(holdings, numbers, row):
    """Whether the transfers settle, and how many more they are than those told."""
    transfers = parts_of(row, 3)
    for payer, receiver, amount in transfers:
        check_houses(payer, receiver)
        check_within([amount], 1, GREATEST_TRANSFER)
    balances = holdings.debts.balances()
    if gains(transfers) != balances:
        return [0]
    return [1, len(transfers) - len(settling_transfers(balances))]


def answer_clear(holdings, numbers, row):
    """No debts any more."""
    holdings.debts.forget_all()
    return [0]


# By the number of the call: what answers it, how many whole numbers it has, whether it has a list.
DEBT_CALLS = {
    21: (answer_owe, 3, False),
    22: (answer_debts, 0, False),
    23: (answer_balances, 0, False),
    24: (answer_settle, 0, False),
    25: (answer_fewest, 0, False),
    26: (answer_check, 0, True),
    27: (answer_clear, 0, False),
}
