"""Orders of claims, and how they change with the turns [31] [32] [33] [34]."""

from greywait.errors import NoPiece, NoTurn
from greywait.pairs import passing
from greywait.weights import common_divisor
from greywait.words import is_whole

MOST_TURN = 1000000000000000


def check_turn(claims, turn):
    if not is_whole(turn, 0, MOST_TURN):
        raise NoTurn(turn)
    if any([claim[3] > turn for claim in claims]):
        raise NoTurn(turn)


def common_bottom(claims):
    common = 1
    for claim in claims:
        for bottom in (claim[1][1], claim[2][1]):
            common = common * bottom // common_divisor(common, bottom)
    return common


def place_key(claim, turn, common):
    # Over one common bottom weights are whole numbers, which sort by themselves.
    weight = claim[1][0] * (common // claim[1][1])
    speed = claim[2][0] * (common // claim[2][1])
    return (-(weight + (turn - claim[3]) * speed), claim[3], claim[0])


def claims_in_order(claims, turn):
    common = common_bottom(claims)
    return sorted(claims, key=lambda claim: place_key(claim, turn, common))


def numbers_in_order(claims, turn):
    return [claim[0] for claim in claims_in_order(claims, turn)]


def order_at(claims, turn):
    check_turn(claims, turn)
    return numbers_in_order(claims, turn)


def rank_at(claims, number, turn):
    order = order_at(claims, turn)
    # A truth equals 0 or 1 for Python, so it is not enough to look for the number in the list.
    if not any([is_whole(number, known, known) for known in order]):
        raise NoPiece(number)
    return order.index(number)


def passings_behind(claims, turn):
    ordered = claims_in_order(claims, turn)
    found = []
    for place, back in enumerate(ordered):
        for front in ordered[:place]:
            met = passing(front, back, turn)
            if met is not None:
                found.append((met, back[0], front[0]))
    return sorted(found)


def changes(claims, first, last):
    check_turn(claims, first)
    if not is_whole(last, first, MOST_TURN):
        raise NoTurn(last)
    return [row for row in passings_behind(claims, first) if row[0] <= last]


def next_change(claims, turn):
    check_turn(claims, turn)
    found = passings_behind(claims, turn)
    if len(found) == 0:
        return None
    least = found[0][0]
    return (least, [(row[1], row[2]) for row in found if row[0] == least])


def last_turn(claims, turn):
    found = passings_behind(claims, turn)
    return found[-1][0] if len(found) > 0 else None


def last_change(claims, turn):
    check_turn(claims, turn)
    return last_turn(claims, turn)


def for_ever(claims):
    # Not by order_at and last_change: the last change may lie beyond the turns that they take.
    begin = max([claim[3] for claim in claims], default=0)
    last = last_turn(claims, begin)
    return numbers_in_order(claims, begin if last is None else last)
