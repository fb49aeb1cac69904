"""Pieces of work: their six kinds, their deeds, their claims and chores [43] [44] [45]."""

from greywait.errors import Over


class Piece:
    def __init__(self, number, sort_name, came, span, tries, spent=0):
        self.number = number
        self.sort_name = sort_name
        self.came = came
        self.span = span
        self.tries = tries
        self.spent = spent

    # Equal questions are answered by equal things [6], so pieces are equal by their kinds and values.
    def __eq__(self, other):
        if not isinstance(other, Piece):
            return False
        return (self.number, self.span, self.row()) == (other.number, other.span, other.row())

    def word(self):
        raise NotImplementedError()

    def is_open(self):
        return False

    def work_left(self):
        return self.tries * self.span - self.spent if self.is_open() else 0

    def row(self):
        return (self.word(), self.sort_name, self.came, self.tries, self.spent)

    def taken(self):
        raise Over(self.number)

    def missed(self):
        raise Over(self.number)

    def stepped(self):
        raise Over(self.number)

    def failed(self):
        raise Over(self.number)

    def done(self):
        raise Over(self.number)

    def called_off(self):
        raise Over(self.number)

    def resorted(self, name):
        raise Over(self.number)


class Held(Piece):
    def word(self):
        return "held"

    def is_open(self):
        return True

    def taken(self):
        return Waiting(self.number, self.sort_name, self.came, self.span, self.tries, self.spent)

    def missed(self):
        return Missed(self.number, self.sort_name, self.came, self.span, self.tries, self.spent)

    def called_off(self):
        return CalledOff(self.number, self.sort_name, self.came, self.span, self.tries, self.spent)

    def resorted(self, name):
        return Held(self.number, name, self.came, self.span, self.tries, self.spent)


class Waiting(Piece):
    def word(self):
        return "waiting"

    def is_open(self):
        return True

    def stepped(self):
        spent = self.spent + 1
        if spent == self.span:
            return self.failed()
        return Waiting(self.number, self.sort_name, self.came, self.span, self.tries, spent)

    def failed(self):
        tries = self.tries - 1
        if tries == 0:
            return GivenUp(self.number, self.sort_name, self.came, self.span, tries)
        return Waiting(self.number, self.sort_name, self.came, self.span, tries)

    def done(self):
        return Done(self.number, self.sort_name, self.came, self.span, self.tries, self.spent)

    def called_off(self):
        return CalledOff(self.number, self.sort_name, self.came, self.span, self.tries, self.spent)

    def resorted(self, name):
        return Waiting(self.number, name, self.came, self.span, self.tries, self.spent)


class Done(Piece):
    def word(self):
        return "done"


class GivenUp(Piece):
    def word(self):
        return "given up"


class CalledOff(Piece):
    def word(self):
        return "called off"


class Missed(Piece):
    def word(self):
        return "missed"


def claim_of(piece, sorts):
    sort = sorts.sort_of(piece.sort_name)
    return (piece.number, sort.weight, sort.speed, piece.came)


def chore_of(piece, sorts):
    return (claim_of(piece, sorts), piece.work_left())
