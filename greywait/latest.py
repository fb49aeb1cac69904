"""Latest turns, and what shows them [71] [72] [73] [74]."""

from greywait.errors import NoPiece
from greywait.runs import run_of, walk_run
from greywait.words import is_whole


def is_piece_of(chores, number):
    # A truth equals 0 or 1 for Python, but is no number.
    return any([chore[1] > 0 and is_whole(number, chore[0][0], chore[0][0]) for chore in chores])


def check_piece(chores, number):
    if not is_piece_of(chores, number):
        raise NoPiece(number)


def last_turns(rows):
    turns = {}
    for row in rows:
        for number in row[1]:
            turns[number] = row[0]
    return turns


def latest_all(chores, hands, begin):
    return last_turns(run_of(chores, hands, begin))


def latest_of(chores, hands, begin, number):
    check_piece(chores, number)
    return latest_all(chores, hands, begin)[number]


def witness_run(chores, hands, begin, number):
    check_piece(chores, number)
    rows = run_of(chores, hands, begin)
    latest = last_turns(rows)[number]
    return [row for row in rows if row[0] <= latest]


def shows_latest(chores, hands, begin, number, turn, rows):
    if not is_piece_of(chores, number):
        return False
    left = walk_run(chores, hands, begin, rows)
    if left is None or len(rows) == 0:
        return False
    last = rows[-1]
    if not is_whole(turn, last[0], last[0]) or number not in last[1]:
        return False
    return not is_piece_of(left, number)


def kept_all(chores, hands, begin, told):
    run = run_of(chores, hands, begin)
    turns = last_turns(run)
    late = [number for number in turns if number in told and turns[number] > told[number]]
    if len(late) == 0:
        return None
    least = min(late)
    return (least, told[least], turns[least], run)
