"""Turns of work, and runs of them [51] [52] [53] [54]."""

from greywait.errors import NoEnd
from greywait.orders import numbers_in_order
from greywait.words import is_whole


def numbers_worked(chores, hands, turn):
    there = [chore[0] for chore in chores if chore[1] > 0 and chore[0][3] <= turn]
    return numbers_in_order(there, turn)[:hands]


def chores_behind(chores, numbers):
    lessened = [(chore[0], chore[1] - 1 if chore[0][0] in numbers else chore[1]) for chore in chores]
    return [chore for chore in lessened if chore[1] > 0]


def turn_done(chores, hands, turn):
    numbers = numbers_worked(chores, hands, turn)
    return (numbers, chores_behind(chores, numbers))


def work_taken(chore, real):
    number = chore[0][0]
    turns = real(number)
    # No whole number is too great here, so what is told is its own upper bound.
    if not is_whole(turns, 0, turns):
        raise NoEnd(number)
    return min(turns, chore[1])


def chores_taken(chores, real):
    if real is None:
        return chores
    return [(chore[0], work_taken(chore, real)) for chore in chores]


def run_of(chores, hands, begin, real=None):
    left = chores_behind(chores_taken(chores, real), [])
    turn = begin
    rows = []
    # Without a hand nobody is ever worked on, so there is no last turn to go to.
    while len(left) > 0 and hands > 0:
        step = turn_done(left, hands, turn)
        rows.append((turn, step[0]))
        left = step[1]
        turn += 1
    return rows


def are_numbers(thing, numbers):
    if not isinstance(thing, list) or len(thing) != len(numbers):
        return False
    # A truth equals 0 or 1 for Python, so it is not enough to compare the lists.
    return all([is_whole(part, number, number) for part, number in zip(thing, numbers)])


def is_row_of(thing, turn, numbers):
    if not isinstance(thing, tuple) or len(thing) != 2:
        return False
    return is_whole(thing[0], turn, turn) and are_numbers(thing[1], numbers)


def walk_run(chores, hands, begin, rows):
    if not isinstance(rows, list):
        return None
    left = chores_behind(chores, [])
    for turn, row in enumerate(rows, start=begin):
        step = turn_done(left, hands, turn)
        if not is_row_of(row, turn, step[0]):
            return None
        left = step[1]
    return left
