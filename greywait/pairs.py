"""Two claims: what they weigh, who is ahead, and when one passes the other [21] [22] [23]."""

from greywait.errors import NoTurn
from greywait.weights import compared, weight_after


def weight_at(claim, turn):
    came = claim[3]
    if turn < came:
        raise NoTurn(turn)
    return weight_after(claim[1], claim[2], turn - came)


def ahead_of_equals(one, other):
    return (one[3], one[0]) < (other[3], other[0])


def ahead(one, other, turn):
    step = compared(weight_at(one, turn), weight_at(other, turn))
    if step == 0:
        return ahead_of_equals(one, other)
    return step > 0


def difference(one, other):
    return (one[0] * other[1] - other[0] * one[1], one[1] * other[1])


def turns_to_pass(front, back, begin):
    # Who is ahead and no slower stays ahead, for the gap never shrinks.
    if compared(back[2], front[2]) <= 0:
        return None
    gap = difference(weight_at(front, begin), weight_at(back, begin))
    gain = difference(back[2], front[2])
    parts = divmod(gap[0] * gain[1], gap[1] * gain[0])
    # At just these turns both weigh the same, so it hangs on who is ahead of equals.
    if parts[1] == 0 and ahead_of_equals(back, front):
        return parts[0]
    return parts[0] + 1


def passing(one, other, begin):
    if ahead(one, other, begin):
        turns = turns_to_pass(one, other, begin)
    else:
        turns = turns_to_pass(other, one, begin)
    return None if turns is None else begin + turns
