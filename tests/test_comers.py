"""Who comes late: points 2, 3, 5, 6, 7, 8, 61, 62, 63 and 64."""

import copy
import inspect
import itertools
import random
import unittest
from fractions import Fraction

from greywait.comers import last_able, last_comer
from greywait.errors import NoTurn
from greywait.sorts import Sorts

MOST_TURN = 10 ** 15
MOST_TOP = 1000000
LONG_NUMBER = 10 ** 40 - 1

NO_TURNS = [
    -1, MOST_TURN + 1, 10 ** 99, -10 ** 99, True, False, None, "", "0", "now", [], [0], (), (0,), {}, {0: 0}, [[1], {}],
]
NOUGHT = (0, 1)
ONE = (1, 1)


def weight_then(weight, speed, came, turn):
    return Fraction(*weight) + (turn - came) * Fraction(*speed)


def is_ahead(claim, weight, speed, came, turn):
    return weight_then(weight, speed, came, turn) > weight_then(claim[1], claim[2], claim[3], turn)


def walked(claim, weight, speed, begin, until):
    """The last turn, found by going over all turns at which it may come and all at which it may be ahead."""
    for came in range(until, begin - 1, -1):
        if any(is_ahead(claim, weight, speed, came, turn) for turn in range(came, until + 1)):
            return came
    return None


def greatest_below(bound):
    return -((-bound.numerator) // bound.denominator) - 1


def reckoned(claim, weight, speed, begin, until):
    """The last turn, by solving both inequations: ahead when it comes, or ahead at the end."""
    found = []
    mine, pace = Fraction(*claim[1]), Fraction(*claim[2])
    gap = Fraction(*weight) - mine
    if pace == 0:
        found += [until] if gap > 0 else []
    else:
        found.append(greatest_below(gap / pace) + claim[3])
    lack = mine + (until - claim[3]) * pace - Fraction(*weight)
    if Fraction(*speed) == 0:
        found += [until] if lack < 0 else []
    else:
        found.append(until - (lack / Fraction(*speed)).__floor__() - 1)
    found = [min(turn, until) for turn in found if turn >= begin]
    return max(found, default=None)


def some_weight(source, tops, bottoms):
    return (source.randint(0, tops), source.randint(1, bottoms))


class ComersCase(unittest.TestCase):
    def refused(self, thing, asked):
        with self.assertRaises(NoTurn) as caught:
            asked()
        self.assertIs(type(caught.exception), NoTurn)
        self.assertIs(caught.exception.turn, thing)

    def same(self, answer, known):
        self.assertEqual(answer, known)
        self.assertEqual(repr(answer), repr(known))


class TestInterface(ComersCase):
    def test_names_of_arguments(self):
        self.assertEqual(str(inspect.signature(last_able)), "(claim, weight, speed, begin, until)")
        self.assertEqual(str(inspect.signature(last_comer)), "(claim, sorts, begin, until)")


class TestLastAble(ComersCase):
    def told(self, claim, weight, speed, begin, until, turn):
        with self.subTest(claim=claim, weight=weight, speed=speed, begin=begin, until=until):
            self.same(last_able(claim, weight, speed, begin, until), turn)

    def test_ahead_when_it_comes(self):
        claim = (0, (2, 1), ONE, 0)
        self.told(claim, (5, 1), NOUGHT, 0, 10, 2)
        self.told(claim, (5, 1), NOUGHT, 2, 10, 2)
        self.told(claim, (5, 1), NOUGHT, 3, 10, None)
        self.told(claim, (5, 1), NOUGHT, 0, 1, 1)
        self.told(claim, (11, 2), (1, 2), 0, 10, 3)

    def test_ahead_only_later(self):
        claim = (0, (10, 1), ONE, 0)
        self.told(claim, NOUGHT, (3, 1), 0, 4, None)
        self.told(claim, NOUGHT, (3, 1), 0, 5, None)
        self.told(claim, NOUGHT, (3, 1), 0, 6, 0)
        self.told(claim, NOUGHT, (3, 1), 0, 9, 2)
        self.told(claim, NOUGHT, (3, 1), 2, 9, 2)
        self.told(claim, NOUGHT, (3, 1), 3, 9, None)

    def test_both_ways_are_looked_at(self):
        claim = (0, (10, 1), (1, 2), 0)
        self.told(claim, (12, 1), (5, 1), 0, 100, 90)
        self.told(claim, (12, 1), (1, 12), 0, 100, 3)
        self.told(claim, (12, 1), (5, 1), 0, 5, 4)

    def test_equal_weights_leave_the_claim_ahead(self):
        claim = (0, (3, 1), (2, 1), 4)
        for until in (4, 5, 9, 1000):
            self.told(claim, (3, 1), (2, 1), 4, until, None)
            self.told(claim, (6, 2), (4, 2), 4, until, None)
            self.told(claim, (3, 1), NOUGHT, 4, until, None)
        self.told(claim, (3, 1), (3, 1), 4, 4, None)
        self.told(claim, (3, 1), (3, 1), 4, 5, 4)
        self.told(claim, (4, 1), (2, 1), 4, 4, 4)
        self.told(claim, (4, 1), (2, 1), 4, 9, 4)
        self.told(claim, (5, 1), (2, 1), 4, 9, 4)
        self.told((0, (3, 1), NOUGHT, 4), (3, 1), NOUGHT, 4, 9, None)
        self.told((0, NOUGHT, NOUGHT, 0), NOUGHT, NOUGHT, 0, MOST_TURN, None)

    def test_just_more_is_ahead(self):
        claim = (0, (3, 1), NOUGHT, 4)
        self.told(claim, (37, 12), NOUGHT, 4, 9, 9)
        self.told(claim, (35, 12), NOUGHT, 4, 9, None)
        self.told(claim, (35, 12), (1, 12), 4, 9, 7)

    def test_begin_is_until(self):
        claim = (0, (3, 1), ONE, 0)
        for turn in (0, 1, 7):
            self.told(claim, (3 + turn, 1), (9, 1), turn, turn, None)
            self.told(claim, (4 + turn, 1), NOUGHT, turn, turn, turn)
            self.told(claim, (2 + turn, 1), (9, 1), turn, turn, None)

    def test_begin_is_the_claims_coming(self):
        claim = (0, (3, 1), ONE, 7)
        self.told(claim, (4, 1), NOUGHT, 7, 20, 7)
        self.told(claim, (4, 1), NOUGHT, 8, 20, None)
        self.told(claim, (10, 1), NOUGHT, 7, 20, 13)

    def test_the_last_turn_of_all(self):
        claim = (0, ONE, NOUGHT, 0)
        self.told(claim, (2, 1), NOUGHT, 0, MOST_TURN, MOST_TURN)
        self.told(claim, ONE, ONE, 0, MOST_TURN, MOST_TURN - 1)
        self.told(claim, ONE, (1, 12), MOST_TURN, MOST_TURN, None)
        self.told(claim, NOUGHT, (1, 12), 0, MOST_TURN, MOST_TURN - 13)
        self.told((0, NOUGHT, ONE, MOST_TURN), ONE, NOUGHT, MOST_TURN, MOST_TURN, MOST_TURN)
        self.told((0, NOUGHT, ONE, MOST_TURN), NOUGHT, ONE, MOST_TURN, MOST_TURN, None)
        self.told((0, NOUGHT, ONE, 0), NOUGHT, ONE, 0, MOST_TURN, None)
        self.told((0, NOUGHT, ONE, 0), NOUGHT, (2, 1), 0, MOST_TURN, MOST_TURN // 2 - 1)
        self.told((0, NOUGHT, ONE, 0), NOUGHT, (2, 1), 0, MOST_TURN - 1, MOST_TURN // 2 - 1)
        self.told((0, NOUGHT, ONE, 0), NOUGHT, (2, 1), 0, MOST_TURN - 2, MOST_TURN // 2 - 2)

    def test_turn_nought(self):
        self.told((0, ONE, ONE, 0), (2, 1), NOUGHT, 0, 0, 0)
        self.told((0, ONE, ONE, 0), ONE, ONE, 0, 0, None)

    def test_the_claims_number_plays_no_part(self):
        for number in (0, 1, 99, LONG_NUMBER):
            self.told((number, (3, 1), ONE, 0), (3, 1), ONE, 0, 10, None)
            self.told((number, (2, 1), ONE, 0), (5, 1), NOUGHT, 0, 10, 2)

    def test_weights_that_are_otherwise_written(self):
        for factor in (1, 2, 3, 6):
            claim = (0, (5 * factor, 2 * factor), (factor, 2 * factor), 1)
            self.told(claim, (2 * factor, factor), (3 * factor, 2 * factor), 1, 9, 5)

    def test_against_a_walk(self):
        source = random.Random(62)
        found = []
        for step in range(1500):
            claim = (step, some_weight(source, 12, 3), some_weight(source, 5, 4), source.randint(0, 3))
            weight = some_weight(source, 16, 3)
            speed = some_weight(source, 6, 4)
            begin = claim[3] + source.randint(0, 3)
            until = begin + source.randint(0, 14)
            known = walked(claim, weight, speed, begin, until)
            self.told(claim, weight, speed, begin, until, known)
            self.assertEqual(known, reckoned(claim, weight, speed, begin, until))
            found.append("none" if known is None else "last" if known == until else "first" if known == begin else "in")
        for kind in ("none", "last", "first", "in"):
            self.assertGreater(found.count(kind), 100)

    def test_far_ones(self):
        source = random.Random(620)
        for step in range(600):
            claim = (
                step, some_weight(source, MOST_TOP, 12), some_weight(source, source.choice([0, 3, MOST_TOP]), 12),
                source.randint(0, 10 ** source.randint(0, 15)),
            )
            weight = some_weight(source, MOST_TOP, 12)
            speed = some_weight(source, source.choice([0, 3, MOST_TOP]), 12)
            begin = source.randint(claim[3], min(MOST_TURN, claim[3] + 10 ** source.randint(0, 15)))
            until = source.randint(begin, min(MOST_TURN, begin + 10 ** source.randint(0, 15)))
            self.told(claim, weight, speed, begin, until, reckoned(claim, weight, speed, begin, until))

    def test_who_comes_behind_that_turn_is_never_ahead_and_who_comes_earlier_is(self):
        source = random.Random(621)
        for step in range(60):
            claim = (step, some_weight(source, 12, 3), some_weight(source, 5, 4), 2)
            weight = some_weight(source, 16, 3)
            speed = some_weight(source, 6, 4)
            told = last_able(claim, weight, speed, 2, 15)
            for came in range(2, 16):
                able = any(is_ahead(claim, weight, speed, came, turn) for turn in range(came, 16))
                self.assertEqual(able, told is not None and came <= told)

    def test_equal_questions_have_equal_answers(self):
        claim = (0, (2, 1), ONE, 0)
        self.assertEqual([last_able(claim, (5, 1), NOUGHT, 0, 10) for step in range(3)], [2, 2, 2])

    def test_no_beginning(self):
        claim = (0, (2, 1), ONE, 0)
        for thing in NO_TURNS:
            for until in [0, 10, MOST_TURN] + NO_TURNS:
                with self.subTest(begin=thing, until=until):
                    self.refused(thing, lambda: last_able(claim, (5, 1), NOUGHT, thing, until))

    def test_a_beginning_ahead_of_the_claims_coming(self):
        claim = (0, (2, 1), ONE, 300)
        for begin in (0, 1, 298, 299):
            for until in [begin, 300, 301, MOST_TURN] + NO_TURNS:
                with self.subTest(begin=begin, until=until):
                    self.refused(begin, lambda: last_able(claim, (5, 1), NOUGHT, begin, until))
        self.told(claim, (5, 1), NOUGHT, 300, 310, 302)

    def test_no_end(self):
        claim = (0, (2, 1), ONE, 0)
        for thing in NO_TURNS:
            with self.subTest(until=thing):
                self.refused(thing, lambda: last_able(claim, (5, 1), NOUGHT, 0, thing))
                self.refused(thing, lambda: last_able(claim, (5, 1), NOUGHT, MOST_TURN, thing))

    def test_an_end_ahead_of_the_beginning(self):
        claim = (0, (2, 1), ONE, 0)
        for begin, until in ((1, 0), (300, 299), (MOST_TURN, 0), (MOST_TURN, MOST_TURN - 1)):
            with self.subTest(begin=begin, until=until):
                self.refused(until, lambda: last_able(claim, (5, 1), NOUGHT, begin, until))


class TestLastComer(ComersCase):
    claim = (0, (2, 1), ONE, 0)
    low = ("low", NOUGHT, NOUGHT, 1, 1)
    high = ("high", (5, 1), NOUGHT, 2, 1)
    quick = ("quick", NOUGHT, (3, 1), 4, 3)

    def told(self, claim, rows, begin, until, known):
        with self.subTest(claim=claim, rows=rows, begin=begin, until=until):
            sorts = Sorts(rows)
            before = copy.deepcopy(sorts.rows_told())
            self.same(last_comer(claim, sorts, begin, until), known)
            self.same(sorts.rows_told(), before)

    def test_one_sort(self):
        self.told(self.claim, [self.low], 0, 10, None)
        self.told(self.claim, [self.high], 0, 10, (2, "high"))
        self.told(self.claim, [self.quick], 0, 10, (5, "quick"))

    def test_the_greatest_turn(self):
        for rows in itertools.permutations([self.low, self.high, self.quick]):
            self.told(self.claim, list(rows), 0, 10, (5, "quick"))
            self.told(self.claim, list(rows), 0, 4, (2, "high"))
            self.told(self.claim, list(rows), 6, 10, None)
            self.told(self.claim, list(rows), 0, 0, (0, "high"))

    def test_equal_turns_of_several_sorts(self):
        self.told(self.claim, [self.quick, self.high], 0, 4, (2, "high"))
        self.told(self.claim, [self.quick, self.high], 0, 5, (2, "quick"))
        self.told(self.claim, [self.high, self.quick], 0, 5, (2, "high"))
        self.told(self.claim, [self.high, self.quick], 0, 6, (3, "quick"))
        self.told(self.claim, [self.low, self.high, self.quick], 0, 5, (2, "high"))
        self.told(self.claim, [self.low, self.quick, self.high], 0, 5, (2, "quick"))
        alike = [(name, (5, 1), NOUGHT, 1, 1) for name in ("zz", "b", "a", "c")]
        self.told(self.claim, alike, 0, 10, (2, "zz"))
        self.told(self.claim, alike[1:] + [self.quick], 0, 10, (5, "quick"))

    def test_turn_nought_is_a_turn(self):
        self.told((0, (4, 1), ONE, 0), [self.low, self.high], 0, 10, (0, "high"))
        self.told((0, (4, 1), ONE, 0), [self.high, ("other", (5, 1), ONE, 1, 1)], 0, 10, (0, "high"))

    def test_the_last_turn_of_all(self):
        self.told((0, ONE, NOUGHT, 0), [self.low, self.high], 0, MOST_TURN, (MOST_TURN, "high"))
        self.told((0, ONE, NOUGHT, MOST_TURN), [self.quick], MOST_TURN, MOST_TURN, None)

    def test_eight_sorts_against_a_walk(self):
        source = random.Random(63)
        for step in range(150):
            claim = (step, some_weight(source, 12, 3), some_weight(source, 5, 4), source.randint(0, 2))
            rows = [
                (name, some_weight(source, 16, 3), some_weight(source, 6, 4), 1, 1)
                for name in "hgfedcba"[:source.randint(1, 8)]
            ]
            begin = claim[3] + source.randint(0, 2)
            until = begin + source.randint(0, 9)
            known = None
            for name, weight, speed, span, tries in rows:
                turn = walked(claim, weight, speed, begin, until)
                if turn is not None and (known is None or turn > known[0]):
                    known = (turn, name)
            self.told(claim, rows, begin, until, known)

    def test_other_speeds(self):
        sorts = Sorts([self.low, self.high])
        self.same(last_comer(self.claim, sorts.with_speed("low", (3, 1)), 0, 10), (5, "low"))
        self.same(last_comer(self.claim, sorts, 0, 10), (2, "high"))

    def test_refused(self):
        sorts = Sorts([self.low, self.high])
        late = (0, (2, 1), ONE, 300)
        for thing in NO_TURNS:
            with self.subTest(thing=thing):
                for other in [0, MOST_TURN] + NO_TURNS:
                    self.refused(thing, lambda: last_comer(self.claim, sorts, thing, other))
                self.refused(thing, lambda: last_comer(self.claim, sorts, 0, thing))
                for begin in (0, 299):
                    self.refused(begin, lambda: last_comer(late, sorts, begin, thing))
        begin, until = 300, 299
        self.refused(until, lambda: last_comer(self.claim, sorts, begin, until))
        self.refused(until, lambda: last_comer(late, sorts, begin, until))
        self.same(sorts.rows_told(), [self.low, self.high])


if __name__ == "__main__":
    unittest.main()
