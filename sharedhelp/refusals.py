"""The refusals: for each an error of its own, which knows the number that it is answered by."""


class Refusal(Exception):
    """A call is refused. It is raised before anything is changed."""

    def __init__(self, number):
        self.number = number


class BadSlot(Refusal):
    """A slot isn't from 0 to 7."""

    def __init__(self):
        Refusal.__init__(self, -1)


class NoGame(Refusal):
    """There is no game in a slot."""

    def __init__(self):
        Refusal.__init__(self, -2)


class UnlikeGames(Refusal):
    """Two games have unlike numbers of regions."""

    def __init__(self):
        Refusal.__init__(self, -3)


class BadValue(Refusal):
    """A number is beyond its bounds, or a list has not the form that is asked for."""

    def __init__(self):
        Refusal.__init__(self, -4)


class NoGroup(Refusal):
    """A number is no group of the game."""

    def __init__(self):
        Refusal.__init__(self, -5)


class NoDemands(Refusal):
    """The game isn't told by demands."""

    def __init__(self):
        Refusal.__init__(self, -6)


class CostTooGreat(Refusal):
    """A game would be put that has a cost beyond the bounds."""

    def __init__(self):
        Refusal.__init__(self, -7)
