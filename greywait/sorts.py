"""Sorts of pieces: their weights, speeds, spans and tries [41] [42]."""

from greywait.errors import NoSort, NoSorts, NoWeight
from greywait.weights import is_weight, lowest
from greywait.words import is_name, is_whole

MOST_SORTS = 8
MOST_SPAN = 4
MOST_TRIES = 3


def is_row(thing):
    if not isinstance(thing, tuple) or len(thing) != 5:
        return False
    if not is_name(thing[0]) or not is_weight(thing[1]) or not is_weight(thing[2]):
        return False
    return is_whole(thing[3], 1, MOST_SPAN) and is_whole(thing[4], 1, MOST_TRIES)


def are_rows(thing):
    if not isinstance(thing, list) or not 1 <= len(thing) <= MOST_SORTS:
        return False
    if not all([is_row(row) for row in thing]):
        return False
    return len(set([row[0] for row in thing])) == len(thing)


def in_lowest(weight):
    return lowest(weight[0], weight[1])


class Sort:
    def __init__(self, name, weight, speed, span, tries):
        self.name = name
        self.weight = in_lowest(weight)
        self.speed = in_lowest(speed)
        self.span = span
        self.tries = tries

    def as_row(self):
        return (self.name, self.weight, self.speed, self.span, self.tries)

    # Equal questions are answered by equal things [6], so sorts are equal by their values.
    def __eq__(self, other):
        return isinstance(other, Sort) and self.as_row() == other.as_row()


def sort_from(row):
    return Sort(row[0], row[1], row[2], row[3], row[4])


class Sorts:
    def __init__(self, rows):
        if not are_rows(rows):
            raise NoSorts()
        self.rows = [sort_from(row).as_row() for row in rows]

    def __eq__(self, other):
        return isinstance(other, Sorts) and self.rows == other.rows

    def sort_names(self):
        return [row[0] for row in self.rows]

    def sort_of(self, name):
        for row in self.rows:
            if row[0] == name:
                return sort_from(row)
        raise NoSort(name)

    def rows_told(self):
        return list(self.rows)

    def with_speed(self, name, speed):
        changed = self.sort_of(name)
        if not is_weight(speed):
            raise NoWeight()
        changed_row = (changed.name, changed.weight, speed, changed.span, changed.tries)
        return Sorts([changed_row if row[0] == name else row for row in self.rows])
