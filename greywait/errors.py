"""The refusals: one class for each, all straight under WaitError."""


class WaitError(ValueError):
    pass


class NoWeight(WaitError):
    pass


class NoName(WaitError):
    def __init__(self, name):
        self.name = name


class NoSorts(WaitError):
    pass


class NoSort(WaitError):
    def __init__(self, name):
        self.name = name


class NoHands(WaitError):
    def __init__(self, hands):
        self.hands = hands


class NoTurn(WaitError):
    def __init__(self, turn):
        self.turn = turn


class NoPiece(WaitError):
    def __init__(self, number):
        self.number = number


class Over(WaitError):
    def __init__(self, number):
        self.number = number


class TooMany(WaitError):
    pass


class NoEnd(WaitError):
    def __init__(self, number):
        self.number = number


class NoLine(WaitError):
    pass
