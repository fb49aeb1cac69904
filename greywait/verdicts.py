"""Verdicts: what is answered to what is asked of a house [92]."""


def own_rows(rows):
    return [(row[0], list(row[1])) for row in rows]


class Verdict:
    # Equal questions are answered by equal things [6], so verdicts are equal by what they tell.
    def __eq__(self, other):
        return isinstance(other, Verdict) and self.told() == other.told()

    def granted(self):
        raise NotImplementedError()

    def word(self):
        raise NotImplementedError()

    def told(self):
        raise NotImplementedError()


class Granted(Verdict):
    def __init__(self, number):
        self.number = number

    def granted(self):
        return True

    def word(self):
        return "granted"

    def told(self):
        return (self.word(), self.number)


class LateOne(Verdict):
    def __init__(self, number, due, turn, run):
        self.number = number
        self.due = due
        self.turn = turn
        self.run = own_rows(run)

    def granted(self):
        return False

    def word(self):
        return "late"

    def told(self):
        return (self.word(), self.number, self.due, self.turn, own_rows(self.run))
