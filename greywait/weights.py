"""Fractions, weights and speeds, and how weights are written [12] [13] [14]."""

from greywait.words import is_whole, number_of

MOST_TOP = 1000000
MOST_BOTTOM = 12


def common_divisor(one, other):
    while other > 0:
        rest = one % other
        one = other
        other = rest
    return one


def lowest(top, bottom):
    divisor = common_divisor(abs(top), bottom)
    return (top // divisor, bottom // divisor)


def compared(one, other):
    # Bottoms are above 0, so multiplying by both of them keeps the order.
    left = one[0] * other[1]
    right = other[0] * one[1]
    if left < right:
        return -1
    return 1 if left > right else 0


def is_weight(thing):
    if not isinstance(thing, tuple) or len(thing) != 2:
        return False
    return is_whole(thing[0], 0, MOST_TOP) and is_whole(thing[1], 1, MOST_BOTTOM)


def weight_after(weight, speed, turns):
    top = weight[0] * speed[1] + turns * speed[0] * weight[1]
    return lowest(top, weight[1] * speed[1])


def weight_text(weight):
    least = lowest(weight[0], weight[1])
    top = str(least[0])
    if least[1] == 1:
        return top
    bottom = str(least[1])
    return f"{top}/{bottom}"


def weight_in(text):
    parts = text.partition("/")
    top = number_of(parts[0], 0, MOST_TOP)
    # A bottom of 1 is never written, so behind a stroke it begins at 2.
    bottom = number_of(parts[2], 2, MOST_BOTTOM) if parts[1] == "/" else 1
    if top is None or bottom is None:
        return None
    weight = (top, bottom)
    return weight if lowest(top, bottom) == weight else None
