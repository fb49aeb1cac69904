"""Two claims: points 2, 3, 6, 7, 21, 22 and 23."""

import copy
import itertools
import random
import unittest
from fractions import Fraction

from greywait.errors import NoTurn, WaitError
from greywait.pairs import ahead, passing, weight_at

MOST_TURN = 10 ** 15
MOST_TOP = 1000000
LONG_NUMBER = 10 ** 40 - 1


def number_at(claim, turn):
    return Fraction(*claim[1]) + (turn - claim[3]) * Fraction(*claim[2])


def pair_of(number):
    return (number.numerator, number.denominator)


def is_ahead(one, other, turn):
    mine, theirs = number_at(one, turn), number_at(other, turn)
    if mine != theirs:
        return mine > theirs
    if one[3] != other[3]:
        return one[3] < other[3]
    return one[0] < other[0]


def walked_passing(one, other, begin, end):
    first = is_ahead(one, other, begin)
    for turn in range(begin + 1, end + 1):
        if is_ahead(one, other, turn) != first:
            return turn
    return None


def some_weight(source, tops=9, bottoms=4):
    return (source.randint(0, tops), source.randint(1, bottoms))


class TestWeightAt(unittest.TestCase):
    def told(self, claim, turn, fraction):
        with self.subTest(claim=claim, turn=turn):
            answer = weight_at(claim, turn)
            self.assertEqual(answer, fraction)
            self.assertIs(type(answer), tuple)

    def test_ordinary_ones(self):
        self.told((0, (1, 2), (1, 3), 0), 3, (3, 2))
        self.told((7, (5, 1), (2, 1), 10), 14, (13, 1))
        self.told((7, (1, 4), (1, 6), 2), 3, (5, 12))

    def test_at_just_its_coming(self):
        self.told((1, (3, 2), (7, 5), 4), 4, (3, 2))
        self.told((1, (6, 4), (7, 5), 4), 4, (3, 2))
        self.told((1, (0, 9), (7, 5), 0), 0, (0, 1))
        self.told((1, (5, 12), (7, 5), MOST_TURN), MOST_TURN, (5, 12))

    def test_far_turns(self):
        self.told((0, (0, 1), (1, 1), 0), MOST_TURN, (MOST_TURN, 1))
        self.told((0, (1, 12), (1, 11), 0), MOST_TURN, pair_of(Fraction(1, 12) + Fraction(MOST_TURN, 11)))
        self.told((0, (1, 12), (1, 11), MOST_TURN - 1), MOST_TURN, (23, 132))

    def test_weights_and_speeds_at_their_bounds(self):
        self.told((0, (MOST_TOP, 1), (MOST_TOP, 1), 0), MOST_TURN, (MOST_TOP * (MOST_TURN + 1), 1))
        self.told((0, (MOST_TOP, 12), (0, 12), 0), MOST_TURN, (250000, 3))
        self.told((0, (0, 1), (0, 1), 0), MOST_TURN, (0, 1))

    def test_in_lowest_terms_however_it_was_handed_in(self):
        self.told((0, (6, 4), (4, 2), 1), 3, (11, 2))
        self.told((0, (2, 12), (2, 12), 0), 2, (1, 2))

    def test_its_number_plays_no_part(self):
        for number in (0, 1, LONG_NUMBER):
            self.told((number, (1, 2), (1, 3), 5), 6, (5, 6))

    def test_all_small_ones(self):
        weights = [(top, bottom) for top in (0, 1, 6) for bottom in (1, 4, 12)]
        for weight, speed, came, gone in itertools.product(weights, weights, (0, 3), (0, 1, 7)):
            claim = (2, weight, speed, came)
            self.assertEqual(weight_at(claim, came + gone), pair_of(number_at(claim, came + gone)))

    def test_a_turn_ahead_of_its_coming_is_refused(self):
        for came, turn in ((1, 0), (10, 9), (10, 0), (MOST_TURN, MOST_TURN - 1), (MOST_TURN, 0)):
            with self.subTest(came=came, turn=turn):
                with self.assertRaises(NoTurn) as caught:
                    weight_at((0, (1, 2), (1, 3), came), turn)
                self.assertEqual(caught.exception.turn, turn)


class TestAhead(unittest.TestCase):
    def told(self, front, back, turn):
        with self.subTest(front=front, back=back, turn=turn):
            self.assertIs(ahead(front, back, turn), True)
            self.assertIs(ahead(back, front, turn), False)

    def test_the_greater_weight(self):
        self.told((1, (3, 1), (0, 1), 0), (0, (2, 1), (0, 1), 0), 0)
        self.told((1, (3, 1), (0, 1), 5), (0, (2, 1), (0, 1), 0), 5)
        self.told((1, (1, 2), (0, 1), 0), (0, (1, 3), (0, 1), 0), 7)

    def test_the_weight_of_the_turn_that_is_asked(self):
        slow, fast = (0, (5, 1), (1, 2), 0), (1, (1, 1), (3, 2), 0)
        self.told(slow, fast, 3)
        self.told(slow, fast, 4)
        self.told(fast, slow, 5)
        self.told(fast, slow, MOST_TURN)

    def test_of_equal_weights_who_came_first(self):
        self.told((9, (3, 1), (0, 1), 0), (0, (3, 1), (0, 1), 1), 1)
        self.told((9, (0, 1), (1, 1), 2), (0, (3, 1), (1, 1), 5), 5)
        self.told((9, (0, 1), (1, 1), 2), (0, (3, 1), (1, 1), 5), MOST_TURN)

    def test_of_those_that_came_at_one_turn_the_lesser_number(self):
        self.told((0, (3, 1), (1, 1), 4), (1, (3, 1), (1, 1), 4), 4)
        self.told((9, (3, 1), (1, 1), 4), (10, (3, 1), (1, 1), 4), 12)
        self.told((LONG_NUMBER - 1, (3, 1), (1, 1), 4), (LONG_NUMBER, (3, 1), (1, 1), 4), 12)

    def test_one_number_otherwise_written_weighs_the_same(self):
        self.told((0, (2, 4), (3, 9), 4), (1, (1, 2), (1, 3), 4), 12)
        self.told((0, (1, 2), (1, 3), 4), (1, (2, 4), (3, 9), 4), 12)
        self.told((5, (6, 12), (0, 1), 3), (1, (1, 2), (0, 12), 4), 4)
        self.told((5, (0, 7), (0, 3), 3), (6, (0, 1), (0, 1), 3), 3)

    def test_a_hair_apart_at_the_last_turn(self):
        one, other = (0, (0, 1), (MOST_TOP, 12), 0), (1, (1, 12), (MOST_TOP, 12), 0)
        self.told(other, one, 0)
        self.told(other, one, MOST_TURN)

    def test_at_just_the_coming_of_the_later_one(self):
        self.told((0, (0, 1), (1, 1), 0), (1, (MOST_TOP, 1), (1, 1), MOST_TURN), MOST_TURN)
        self.told((1, (MOST_TOP, 1), (0, 1), MOST_TURN), (0, (0, 1), (0, 1), 0), MOST_TURN)

    def test_refused_where_one_of_both_came_later(self):
        early, late = (0, (9, 1), (1, 1), 3), (1, (1, 1), (1, 1), 8)
        for turn in (0, 2, 3, 7):
            for one, other in ((early, late), (late, early)):
                with self.subTest(turn=turn, one=one):
                    with self.assertRaises(NoTurn) as caught:
                        ahead(one, other, turn)
                    self.assertEqual(caught.exception.turn, turn)
        self.assertIs(ahead(early, late, 8), True)

    def test_just_one_is_ahead_of_the_other(self):
        source = random.Random(22)
        for again in range(2000):
            one = (again, some_weight(source), some_weight(source), source.randint(0, 5))
            other = (again + source.choice((-1, 1)), some_weight(source), some_weight(source), source.randint(0, 5))
            turn = max(one[3], other[3]) + source.randint(0, 9)
            self.assertIs(ahead(one, other, turn), is_ahead(one, other, turn))
            self.assertIs(ahead(other, one, turn), not is_ahead(one, other, turn))


class TestPassing(unittest.TestCase):
    def told(self, one, other, begin, turn):
        with self.subTest(one=one, other=other, begin=begin):
            self.assertEqual(passing(one, other, begin), turn)
            self.assertEqual(passing(other, one, begin), turn)

    def test_ordinary_ones(self):
        slow, fast = (0, (5, 1), (1, 2), 0), (1, (1, 1), (3, 2), 0)
        self.told(slow, fast, 0, 5)
        self.told(slow, fast, 3, 5)
        self.told(slow, fast, 4, 5)

    def test_where_they_weigh_the_same_at_the_passing(self):
        self.told((1, (5, 1), (1, 2), 0), (0, (1, 1), (3, 2), 0), 0, 4)
        self.told((0, (9, 1), (0, 1), 2), (1, (0, 1), (1, 1), 1), 2, 10)
        self.told((0, (9, 1), (0, 1), 1), (1, (0, 1), (1, 1), 2), 2, 12)

    def test_where_they_weigh_the_same_at_the_beginning(self):
        self.told((0, (3, 1), (0, 1), 2), (1, (3, 1), (1, 1), 2), 2, 3)
        self.told((1, (3, 1), (0, 1), 2), (0, (3, 1), (1, 1), 2), 2, None)
        self.told((9, (3, 1), (0, 1), 1), (0, (3, 1), (1, 12), 2), 2, 3)

    def test_none_behind_the_passing(self):
        slow, fast = (0, (5, 1), (1, 2), 0), (1, (1, 1), (3, 2), 0)
        for begin in (5, 6, 100, MOST_TURN):
            self.told(slow, fast, begin, None)

    def test_none_where_the_one_ahead_is_no_slower(self):
        self.told((0, (5, 1), (1, 2), 0), (1, (1, 1), (1, 2), 0), 0, None)
        self.told((0, (5, 1), (1, 2), 0), (1, (1, 1), (1, 3), 0), 0, None)
        self.told((0, (0, 1), (0, 1), 0), (1, (0, 1), (0, 1), 0), 0, None)

    def test_none_where_speeds_are_one_number_otherwise_written(self):
        self.told((0, (5, 1), (1, 2), 0), (1, (1, 1), (6, 12), 0), 0, None)
        self.told((0, (5, 1), (0, 1), 0), (1, (1, 1), (0, 12), 3), 3, None)

    def test_one_number_otherwise_written(self):
        for weight, speed in itertools.product(((5, 1), (10, 2), (60, 12)), ((1, 2), (6, 12), (2, 4))):
            self.told((0, weight, speed, 0), (1, (2, 2), (3, 2), 0), 0, 5)
            self.told((1, weight, speed, 0), (0, (3, 3), (9, 6), 0), 0, 4)

    def test_at_the_last_turn_and_just_beyond(self):
        self.told((0, (1, 1), (0, 1), MOST_TURN), (1, (0, 1), (1, 1), MOST_TURN), MOST_TURN, MOST_TURN + 2)
        self.told((1, (1, 1), (0, 1), MOST_TURN), (0, (0, 1), (1, 1), MOST_TURN), MOST_TURN, MOST_TURN + 1)
        self.told((1, (1, 1), (0, 1), MOST_TURN - 1), (0, (0, 1), (1, 1), MOST_TURN - 1), MOST_TURN - 1, MOST_TURN)
        self.told((1, (1, 1), (0, 1), MOST_TURN - 1), (0, (0, 1), (1, 1), MOST_TURN - 1), MOST_TURN, None)

    def test_far_beyond_the_last_turn(self):
        early, late = (0, (MOST_TOP, 1), (MOST_TOP - 1, 1), 0), (1, (0, 1), (MOST_TOP, 1), MOST_TURN)
        turn = MOST_TURN + MOST_TOP + MOST_TURN * (MOST_TOP - 1) + 1
        self.told(early, late, MOST_TURN, turn)
        early, late = (0, (0, 1), (83333, 1), 0), (1, (0, 1), (MOST_TOP, 12), MOST_TURN)
        self.told(early, late, MOST_TURN, MOST_TURN + 3 * 83333 * MOST_TURN + 1)

    def test_the_smallest_gain(self):
        self.told((0, (MOST_TOP, 1), (1, 12), 0), (1, (0, 1), (1, 11), 0), 0, 132 * MOST_TOP + 1)
        self.told((1, (MOST_TOP, 1), (1, 12), 0), (0, (0, 1), (1, 11), 0), 0, 132 * MOST_TOP)
        self.told((1, (MOST_TOP, 7), (1, 12), 0), (0, (0, 1), (1, 11), 0), 0, 132 * MOST_TOP // 7 + 1)

    def test_far_ones_by_the_turn_ahead_and_the_turn_itself(self):
        source = random.Random(23)
        found = 0
        for again in range(2000):
            claims = [
                (number, some_weight(source, MOST_TOP, 12), some_weight(source, MOST_TOP, 12),
                 source.choice((0, 5, MOST_TURN, source.randint(0, MOST_TURN))))
                for number in source.sample(range(9), 2)
            ]
            begin = max(claims[0][3], claims[1][3])
            turn = passing(claims[0], claims[1], begin)
            first = is_ahead(claims[0], claims[1], begin)
            if turn is None:
                self.assertEqual(is_ahead(claims[0], claims[1], 10 ** 40), first)
            else:
                found += 1
                self.assertGreater(turn, begin)
                self.assertEqual(is_ahead(claims[0], claims[1], turn - 1), first)
                self.assertEqual(is_ahead(claims[0], claims[1], turn), not first)
        self.assertGreater(found, 300)

    def test_near_ones_turn_by_turn(self):
        source = random.Random(24)
        found = 0
        for again in range(250):
            one, other = [
                (number, some_weight(source), some_weight(source, 5, 3), source.randint(0, 3))
                for number in source.sample(range(9), 2)
            ]
            for begin in (max(one[3], other[3]), max(one[3], other[3]) + source.randint(0, 6)):
                # Gaps are at most 9 + 6 * 5 and gains at least 1/6, so a passing comes within 300 turns.
                turn = walked_passing(one, other, begin, begin + 300)
                self.assertEqual(passing(one, other, begin), turn)
                self.assertEqual(passing(other, one, begin), turn)
                if turn is not None:
                    found += 1
                    self.assertIsNone(passing(one, other, turn))
        self.assertGreater(found, 100)

    def test_refused_where_one_of_both_came_later(self):
        early, late = (0, (9, 1), (1, 1), 3), (1, (1, 1), (2, 1), 8)
        for begin in (0, 2, 3, 7):
            for one, other in ((early, late), (late, early)):
                with self.subTest(begin=begin, one=one):
                    with self.assertRaises(NoTurn) as caught:
                        passing(one, other, begin)
                    self.assertEqual(caught.exception.turn, begin)
        self.told(early, late, 8, 22)


class TestNothingIsChanged(unittest.TestCase):
    def test_equal_questions_have_equal_answers_and_what_is_handed_in_stays(self):
        one, other = (0, (6, 4), (1, 2), 0), (1, (1, 1), (9, 6), 2)
        before = copy.deepcopy((one, other))
        answers = [
            (weight_at(one, 9), ahead(one, other, 2), passing(one, other, 2)) for again in range(3)
        ]
        self.assertEqual(answers, [answers[0]] * 3)
        self.assertEqual((one, other), before)

    def test_a_refusal_changes_nothing(self):
        one, other = (0, (5, 1), (1, 2), 0), (1, (1, 1), (3, 2), 0)
        with self.assertRaises(WaitError):
            passing((2, (1, 1), (1, 1), 9), other, 8)
        self.assertEqual(passing(one, other, 0), 5)


if __name__ == "__main__":
    unittest.main()
