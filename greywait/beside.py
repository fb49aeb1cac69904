"""Histories beside one another: what is left, who has more of it, and who eases whom [81] [82] [83]."""

from greywait.weights import compared


def left_at_first(chores):
    return dict([(chore[0][0], chore[1]) for chore in chores])


def left_behind(left, numbers):
    return dict([(number, max(left[number] - 1, 0) if number in numbers else left[number]) for number in left])


def left_by(chores, rows, turn):
    left = left_at_first(chores)
    for row in rows:
        if row[0] <= turn:
            left = left_behind(left, row[1])
    return left


def numbers_worse(left, other_left):
    return [number for number in other_left if other_left[number] > left.get(number, 0)]


def first_worse(chores, rows, other, other_rows):
    # What is left is carried on from turn to turn, as left_by would go over all rows again for each.
    left = left_at_first(chores)
    other_left = left_at_first(other)
    numbers_at = dict(rows)
    other_numbers_at = dict(other_rows)
    for turn in sorted(set([row[0] for row in rows + other_rows])):
        left = left_behind(left, numbers_at.get(turn, []))
        other_left = left_behind(other_left, other_numbers_at.get(turn, []))
        worse = numbers_worse(left, other_left)
        if len(worse) > 0:
            return (turn, min(worse))
    return None


def same_claim(one, other):
    if (one[0], one[3]) != (other[0], other[3]):
        return False
    return compared(one[1], other[1]) == 0 and compared(one[2], other[2]) == 0


def is_eased(chore, chores):
    return any([same_claim(chore[0], known[0]) and chore[1] <= known[1] for known in chores])


def eases(chores, hands, other, other_hands):
    return other_hands >= hands and all([is_eased(chore, chores) for chore in other])
