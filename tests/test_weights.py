"""Fractions and weights: points 2, 12, 13 and 14."""

import copy
import itertools
import math
import unittest
from fractions import Fraction

from greywait.weights import compared, is_weight, lowest, weight_after, weight_in, weight_text

MOST_TOP = 1000000
BIG = 123456789012345678901234567890
LARGE_PRIME = 2 ** 107 - 1
OTHER_THINGS = [None, True, False, 0, 1, "", "1", "1/2", [], [1, 2], {}, {1: 2}, ()]


def pair_of(number):
    return (number.numerator, number.denominator)


class TestLowest(unittest.TestCase):
    def told(self, top, bottom, fraction):
        with self.subTest(top=top, bottom=bottom):
            answer = lowest(top, bottom)
            self.assertEqual(answer, fraction)
            self.assertIs(type(answer), tuple)

    def test_ordinary_ones(self):
        self.told(6, 4, (3, 2))
        self.told(4, 2, (2, 1))
        self.told(3, 2, (3, 2))
        self.told(5, 5, (1, 1))
        self.told(1, 12, (1, 12))
        self.told(12, 1, (12, 1))
        self.told(36, 48, (3, 4))

    def test_tops_below_nought(self):
        self.told(-6, 4, (-3, 2))
        self.told(-4, 2, (-2, 1))
        self.told(-1, 1, (-1, 1))
        self.told(-7, 3, (-7, 3))
        self.told(-2, 6, (-1, 3))

    def test_nought(self):
        for bottom in (1, 2, 5, 12, 13, BIG):
            self.told(0, bottom, (0, 1))

    def test_numbers_of_some_thirty_figures(self):
        self.told(6 * BIG, 4 * BIG, (3, 2))
        self.told(-6 * BIG, 4 * BIG, (-3, 2))
        self.told(BIG, 1, (BIG, 1))
        self.told(BIG, BIG, (1, 1))
        self.told(BIG + 1, BIG, (BIG + 1, BIG))
        self.told(1, BIG, (1, BIG))
        self.told(3 * LARGE_PRIME, 7 * LARGE_PRIME, (3, 7))
        self.told(BIG * LARGE_PRIME, 2 * LARGE_PRIME, (BIG // 2, 1))

    def test_all_small_ones(self):
        for top in range(-60, 61):
            for bottom in range(1, 61):
                answer = lowest(top, bottom)
                self.assertEqual(answer, pair_of(Fraction(top, bottom)))
                self.assertEqual(math.gcd(answer[0], answer[1]), 1)


class TestCompared(unittest.TestCase):
    def told(self, one, other, answer):
        with self.subTest(one=one, other=other):
            self.assertEqual(compared(one, other), answer)
            self.assertEqual(compared(other, one), -answer)
            self.assertIs(type(compared(one, other)), int)

    def test_less_and_greater(self):
        self.told((1, 3), (1, 2), -1)
        self.told((2, 3), (3, 4), -1)
        self.told((7, 2), (10, 3), 1)
        self.told((0, 1), (1, 12), -1)
        self.told((1, 1), (2, 1), -1)

    def test_the_same_number_otherwise_written(self):
        self.told((1, 2), (6, 12), 0)
        self.told((6, 4), (9, 6), 0)
        self.told((0, 1), (0, 7), 0)
        self.told((-2, 4), (-1, 2), 0)
        self.told((2 * BIG, 4 * BIG), (1, 2), 0)

    def test_one_and_itself(self):
        for fraction in ((0, 1), (3, 2), (6, 4), (-5, 10), (BIG, 7)):
            self.told(fraction, fraction, 0)

    def test_tops_below_nought(self):
        self.told((-1, 2), (-1, 3), -1)
        self.told((-1, 2), (0, 5), -1)
        self.told((-1, 2), (1, 2), -1)
        self.told((-3, 1), (-2, 1), -1)

    def test_numbers_of_some_thirty_figures(self):
        self.told((BIG, BIG + 1), (BIG + 1, BIG + 2), -1)
        self.told((BIG + 1, BIG), (BIG + 2, BIG + 1), 1)
        self.told((-BIG, 3), (1 - BIG, 3), -1)
        self.told((BIG, 1), (BIG, 2), 1)

    def test_all_small_ones(self):
        fractions = [(top, bottom) for top in range(-8, 9) for bottom in range(1, 9)]
        for one, other in itertools.product(fractions, fractions):
            left, right = Fraction(*one), Fraction(*other)
            self.assertEqual(compared(one, other), (left > right) - (left < right))


class TestIsWeight(unittest.TestCase):
    def test_the_bounds_are_counted(self):
        for top in (0, 1, 999999, MOST_TOP):
            for bottom in (1, 2, 11, 12):
                with self.subTest(top=top, bottom=bottom):
                    self.assertIs(is_weight((top, bottom)), True)

    def test_in_lowest_terms_or_not(self):
        for weight in ((6, 4), (4, 2), (0, 5), (12, 12), (1000000, 10), (3, 2)):
            self.assertIs(is_weight(weight), True)

    def test_beyond_the_bounds(self):
        for weight in ((-1, 1), (1000001, 1), (1, 0), (1, 13), (1, -1), (-1, 13), (0, 0),
                       (1000001, 12), (0, 13), (10 ** 99, 1), (1, 10 ** 99)):
            with self.subTest(weight=weight):
                self.assertIs(is_weight(weight), False)

    def test_truths_in_either_place(self):
        for weight in ((True, 1), (False, 1), (1, True), (1, False), (True, True)):
            with self.subTest(weight=weight):
                self.assertIs(is_weight(weight), False)

    def test_other_things_in_either_place(self):
        for thing in OTHER_THINGS:
            if isinstance(thing, int) and not isinstance(thing, bool):
                continue
            with self.subTest(thing=thing):
                self.assertIs(is_weight((thing, 1)), False)
                self.assertIs(is_weight((1, thing)), False)
                self.assertIs(is_weight((thing, thing)), False)

    def test_other_things_in_its_place(self):
        for thing in OTHER_THINGS + [-1, 10 ** 99, "12", [(1, 2)], {0: 1, 1: 2}]:
            with self.subTest(thing=thing):
                self.assertIs(is_weight(thing), False)

    def test_tuples_of_other_lengths(self):
        for thing in ((), (1,), (1, 2, 3), (1, 1, 1, 1), ((1, 2),), ((1, 2), (1, 2))):
            with self.subTest(thing=thing):
                self.assertIs(is_weight(thing), False)

    def test_what_is_asked_of_is_not_changed(self):
        for thing in ([1, 2], {1: [2]}, ([1], 2), (1, [2])):
            before = copy.deepcopy(thing)
            self.assertEqual([is_weight(thing), is_weight(thing)], [False, False])
            self.assertEqual(thing, before)


class TestWeightAfter(unittest.TestCase):
    def told(self, weight, speed, turns, fraction):
        with self.subTest(weight=weight, speed=speed, turns=turns):
            answer = weight_after(weight, speed, turns)
            self.assertEqual(answer, fraction)
            self.assertIs(type(answer), tuple)

    def test_ordinary_ones(self):
        self.told((1, 2), (1, 3), 1, (5, 6))
        self.told((1, 2), (1, 3), 3, (3, 2))
        self.told((5, 1), (2, 1), 4, (13, 1))
        self.told((0, 1), (1, 12), 12, (1, 1))

    def test_behind_no_turns(self):
        self.told((3, 2), (7, 5), 0, (3, 2))
        self.told((6, 4), (7, 5), 0, (3, 2))
        self.told((0, 9), (7, 5), 0, (0, 1))

    def test_behind_very_many(self):
        self.told((1, 12), (1, 11), 10 ** 15, pair_of(Fraction(1, 12) + Fraction(10 ** 15, 11)))
        self.told((MOST_TOP, 7), (MOST_TOP, 12), 10 ** 15, pair_of(Fraction(MOST_TOP, 7) + MOST_TOP * Fraction(10 ** 15, 12)))
        self.told((0, 1), (1, 1), 10 ** 40, (10 ** 40, 1))

    def test_speed_nought(self):
        for speed in ((0, 1), (0, 5), (0, 12)):
            self.told((3, 4), speed, 10 ** 15, (3, 4))
            self.told((6, 8), speed, 7, (3, 4))
            self.told((0, 3), speed, 7, (0, 1))

    def test_of_a_fraction_that_is_no_weight(self):
        self.told((1, 132), (1, 12), 1, (1, 11))
        self.told((MOST_TOP + 1, 1), (1, 2), 1, (2 * MOST_TOP + 3, 2))
        self.told((BIG, 13), (1, 1), 2, pair_of(Fraction(BIG, 13) + 2))
        self.told((2 * BIG, 2 * BIG + 2), (0, 1), 5, pair_of(Fraction(BIG, BIG + 1)))

    def test_what_comes_may_be_no_weight(self):
        self.told((1, 12), (1, 11), 1, (23, 132))
        self.told((MOST_TOP, 1), (MOST_TOP, 1), 1, (2 * MOST_TOP, 1))

    def test_not_in_lowest_terms(self):
        self.told((6, 4), (4, 2), 2, (11, 2))
        self.told((2, 12), (2, 12), 2, (1, 2))
        self.told((10, 5), (9, 3), 1, (5, 1))

    def test_all_small_ones(self):
        weights = [(top, bottom) for top in (0, 1, 2, 5, 6) for bottom in (1, 2, 6, 12)]
        for weight, speed, turns in itertools.product(weights, weights, (0, 1, 2, 7, 12)):
            number = Fraction(*weight) + turns * Fraction(*speed)
            self.assertEqual(weight_after(weight, speed, turns), pair_of(number))

    def test_one_turn_and_one_more_are_two(self):
        once = weight_after((1, 7), (5, 12), 1)
        self.assertEqual(weight_after(once, (5, 12), 1), weight_after((1, 7), (5, 12), 2))

    def test_equal_questions_have_equal_answers(self):
        answers = [weight_after((1, 7), (5, 12), 9) for turn in range(3)]
        self.assertEqual(answers, [(109, 28)] * 3)


class TestWeightText(unittest.TestCase):
    def told(self, weight, text):
        with self.subTest(weight=weight):
            self.assertEqual(weight_text(weight), text)

    def test_the_examples_of_the_point(self):
        self.told((6, 4), "3/2")
        self.told((4, 2), "2")
        self.told((0, 1), "0")

    def test_nought_however_it_is_told(self):
        for bottom in range(1, 13):
            self.told((0, bottom), "0")

    def test_the_bounds(self):
        self.told((1, 12), "1/12")
        self.told((MOST_TOP, 1), "1000000")
        self.told((MOST_TOP, 11), "1000000/11")
        self.told((MOST_TOP, 12), "250000/3")
        self.told((999999, 10), "999999/10")
        self.told((12, 12), "1")
        self.told((1, 1), "1")


class TestWeightIn(unittest.TestCase):
    def told(self, text, weight):
        with self.subTest(text=text):
            answer = weight_in(text)
            self.assertEqual(answer, weight)
            self.assertIs(type(answer), tuple)

    def none(self, text):
        with self.subTest(text=text):
            self.assertIsNone(weight_in(text))

    def test_the_examples_of_the_point(self):
        self.told("3/2", (3, 2))
        self.told("2", (2, 1))
        self.told("0", (0, 1))
        for text in ("6/4", "2/1", "1/13", "0/5"):
            self.none(text)

    def test_the_bounds(self):
        self.told("1", (1, 1))
        self.told("1000000", (MOST_TOP, 1))
        self.told("1000000/11", (MOST_TOP, 11))
        self.told("999999/10", (999999, 10))
        self.told("1/2", (1, 2))
        self.told("1/12", (1, 12))

    def test_just_beyond_the_bounds(self):
        for text in ("-1", "1000001", "1000001/2", "1000001/12", "-1/2", "1/0", "1/1", "1/-2", "1/13", "0/1", "0/0",
                     "99999999999999999", "1/99999999999999999"):
            self.none(text)

    def test_not_in_lowest_terms(self):
        for text in ("2/2", "2/4", "12/12", "10/5", "1000000/12", "0/2", "0/12", "9/12"):
            self.none(text)

    def test_noughts_ahead(self):
        for text in ("00", "01", "007", "01/2", "1/02", "00/2", "1/012", "-0", "-0/2", "+1", "+1/2", "1/+2"):
            self.none(text)

    def test_blanks_and_line_feeds(self):
        for sign in (" ", "\n"):
            for text in ("0", "2", "3/2"):
                self.none(sign + text)
                self.none(text + sign)
            for text in ("3" + sign + "/2", "3/" + sign + "2", "1" + sign + "2", sign, "3/1" + sign + "1"):
                self.none(text)

    def test_strokes(self):
        for text in ("", "/", "//", "/2", "3/", "3//2", "3/2/", "/3/2", "1/2/3", "3/2/1", "-/2", "3/-", "0/"):
            self.none(text)

    def test_other_signs(self):
        for text in ("a", "a/2", "3/a", "3\\2", "3:2", "1.5", "3|2", "(3, 2)", "None"):
            self.none(text)


class TestEachWay(unittest.TestCase):
    def test_what_is_written_is_read(self):
        tops = list(range(0, 200)) + list(range(MOST_TOP - 150, MOST_TOP + 1))
        for top, bottom in itertools.product(tops, range(1, 13)):
            text = weight_text((top, bottom))
            self.assertEqual(weight_in(text), pair_of(Fraction(top, bottom)))

    def test_what_is_read_is_written(self):
        tops = list(range(-2, 100)) + list(range(MOST_TOP - 5, MOST_TOP + 5))
        texts = [f"{top}/{bottom}" for top in tops for bottom in range(-1, 15)] + [str(top) for top in tops]
        read = 0
        for text in texts:
            weight = weight_in(text)
            if weight is not None:
                read += 1
                self.assertIs(is_weight(weight), True)
                self.assertEqual(weight_text(weight), text)
        self.assertGreater(read, 100)

    def test_of_all_short_texts_those_are_read_that_are_written(self):
        written = {}
        for top in range(0, 1000):
            for bottom in range(1, 13):
                written[weight_text((top, bottom))] = pair_of(Fraction(top, bottom))
        for length in range(0, 5):
            for signs in itertools.product("012469/- \n", repeat=length):
                text = "".join(signs)
                if len(text) == 4 and "/" not in text:
                    continue
                self.assertEqual(weight_in(text), written.get(text), text)


if __name__ == "__main__":
    unittest.main()
