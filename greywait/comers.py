"""Who comes late: until when a comer may come and still be ahead [61] [62] [63] [64]."""

from greywait.errors import NoTurn
from greywait.orders import MOST_TURN, check_turn
from greywait.pairs import weight_at
from greywait.weights import compared, weight_after
from greywait.words import is_whole


def comer_ahead(claim, weight, speed, came, turn):
    # Of equal weights the claim is ahead, so the comer must weigh more.
    return compared(weight_after(weight, speed, turn - came), weight_at(claim, turn)) > 0


def is_able(claim, weight, speed, came, until):
    # The gap grows or shrinks evenly, so who is ahead at some turn is ahead at the first or at the last one.
    at_first = comer_ahead(claim, weight, speed, came, came)
    return at_first or comer_ahead(claim, weight, speed, came, until)


def last_able(claim, weight, speed, begin, until):
    check_turn([claim], begin)
    if not is_whole(until, begin, MOST_TURN):
        raise NoTurn(until)
    if not is_able(claim, weight, speed, begin, until):
        return None
    low = begin
    high = until
    # Who comes later is never ahead where one that came earlier isn't, so the stretch may be halved.
    while low < high:
        middle = (low + high + 1) // 2
        if is_able(claim, weight, speed, middle, until):
            low = middle
        else:
            high = middle - 1
    return low


def last_comer(claim, sorts, begin, until):
    best = None
    for row in sorts.rows_told():
        turn = last_able(claim, row[1], row[2], begin, until)
        # Only a greater turn takes the place, so of equal ones the first sort stays.
        if turn is not None and (best is None or turn > best[0]):
            best = (turn, row[0])
    return best
