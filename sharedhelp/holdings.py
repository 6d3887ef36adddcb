"""The object that the calls are made on."""

from sharedhelp.debts import Debts
from sharedhelp.refusals import BadSlot, CostTooGreat, NoGame

SLOTS = 8
GREATEST_COST = 1_000_000_000_000


class Holdings:
    """Eight slots, each with a game or, at first, with None; and the debts."""

    def __init__(self):
        self.games = [None for slot in range(SLOTS)]
        self.debts = Debts()

    def check_slot(self, slot):
        """Refuse a number that is no slot."""
        if not 0 <= slot < SLOTS:
            raise BadSlot()

    def game_at(self, slot):
        """The game in the slot."""
        self.check_slot(slot)
        game = self.games[slot]
        if game is None:
            raise NoGame()
        return game

    def put(self, slot, game):
        """Put the game into the slot, unless it has a cost beyond the bounds."""
        if max(game.costs) > GREATEST_COST or min(game.costs) < -GREATEST_COST:
            raise CostTooGreat()
        self.games[slot] = game
