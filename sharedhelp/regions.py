"""The interface: many calls on one object, told in one list, and their answers in another."""

from sharedhelp.debtcalls import DEBT_CALLS
from sharedhelp.gamecalls import GAME_CALLS
from sharedhelp.holdings import Holdings
from sharedhelp.refusals import Refusal


def call_told(number):
    """What answers the call of this number, how many whole numbers it has, whether it has a list."""
    if number in DEBT_CALLS:
        return DEBT_CALLS[number]
    return GAME_CALLS[number]


def answer_or_refusal(answer_call, holdings, numbers, row):
    """What the call answers, or the number of its refusal alone."""
    try:
        return answer_call(holdings, numbers, row)
    except Refusal as e:
        return [e.number]


def answers(calls):
    """The answers to the calls, made in order on a new object: for each how many numbers it is, and these."""
    holdings = Holdings()
    told = []
    at = 0
    while at < len(calls):
        call = call_told(calls[at])
        end = at + 1 + call[1]
        numbers = calls[at + 1:end]
        row = []
        if call[2]:
            row = calls[end + 1:end + 1 + calls[end]]
            end += 1 + len(row)
        answer = answer_or_refusal(call[0], holdings, numbers, row)
        told.append(len(answer))
        told.extend(answer)
        at = end
    return told
