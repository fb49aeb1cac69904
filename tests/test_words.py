"""Whole numbers, names and numbers written plainly: points 2 and 11."""

import copy
import unittest

from greywait.words import is_name, is_whole, number_of

BOUND = 10 ** 16

OTHER_KINDS = [True, False, None, "", "1", "0", [], [1], (), (1,), {}, {1: 1}]


class TestIsWhole(unittest.TestCase):
    def test_both_bounds_are_counted(self):
        for low, high in ((0, 5), (-5, 5), (-9, -3), (4, 4), (0, 10 ** 40)):
            with self.subTest(low=low, high=high):
                self.assertIs(is_whole(low, low, high), True)
                self.assertIs(is_whole(high, low, high), True)
                self.assertIs(is_whole((low + high) // 2, low, high), True)

    def test_one_beside_each_bound_is_none(self):
        for low, high in ((0, 5), (-5, 5), (-9, -3), (4, 4), (0, 10 ** 40)):
            with self.subTest(low=low, high=high):
                self.assertIs(is_whole(low - 1, low, high), False)
                self.assertIs(is_whole(high + 1, low, high), False)

    def test_nothing_lies_between_bounds_that_are_turned_round(self):
        for number in (0, 1, 2, 3):
            self.assertIs(is_whole(number, 2, 1), False)

    def test_numbers_of_a_hundred_figures(self):
        number = int("7" * 100)
        self.assertIs(is_whole(number, 0, number), True)
        self.assertIs(is_whole(number, 0, number - 1), False)
        self.assertIs(is_whole(-number, -number, 0), True)
        self.assertIs(is_whole(-number, 1 - number, 0), False)

    def test_truths_and_other_kinds_are_none(self):
        for thing in OTHER_KINDS:
            with self.subTest(thing=thing):
                self.assertIs(is_whole(thing, -10, 10), False)
                self.assertIs(is_whole(thing, 0, 1), False)


class TestIsName(unittest.TestCase):
    def test_one_to_eight_small_letters(self):
        for name in ("a", "z", "ab", "grey", "wait", "abcdefg", "abcdefgh", "zzzzzzzz"):
            with self.subTest(name):
                self.assertIs(is_name(name), True)

    def test_each_small_letter_is_one(self):
        for letter in "abcdefghijklmnopqrstuvwxyz":
            self.assertIs(is_name(letter), True)
            self.assertIs(is_name("x" + letter), True)

    def test_no_other_sign_is_one(self):
        for code in list(range(128)) + [0xB5, 0xDF, 0xE4, 0x430, 0x661]:
            sign = chr(code)
            if not "a" <= sign <= "z":
                with self.subTest(sign=sign):
                    for text in (sign, "ab" + sign, sign + "ab", "a" + sign + "b"):
                        self.assertIs(is_name(text), False)

    def test_what_is_no_name(self):
        for text in ("", "abcdefghi", "z" * 100, "Grey", "greY", "grey1", "1", "a b", " a", "a ", "grey\n", "\ngrey"):
            with self.subTest(text=text):
                self.assertIs(is_name(text), False)

    def test_other_kinds_are_none(self):
        for thing in [0, 1, 7, True, False, None, ["a"], ("a",), {"a": 1}, [], (), {}]:
            with self.subTest(thing=thing):
                self.assertIs(is_name(thing), False)


class TestNumberOf(unittest.TestCase):
    def told(self, text, number, low=-BOUND, high=BOUND):
        with self.subTest(text=text, low=low, high=high):
            answer = number_of(text, low, high)
            self.assertEqual(answer, number)
            self.assertIs(type(answer), int)

    def none(self, text, low=-BOUND, high=BOUND):
        with self.subTest(text=text, low=low, high=high):
            self.assertIsNone(number_of(text, low, high))

    def test_numbers_written_plainly(self):
        for number in (0, 1, 5, 9, 10, 42, 100, 1000, 700, 1000000, -1, -9, -10, -42, -100):
            self.told(str(number), number)

    def test_all_small_numbers(self):
        for number in range(-1100, 1101):
            self.assertEqual(number_of(str(number), -2000, 2000), number)

    def test_sixteen_figures(self):
        for number in (10 ** 15, 1234567890123456, 10 ** 16 - 1):
            self.told(str(number), number)
            self.told(str(-number), -number)

    def test_seventeen_figures_are_none(self):
        for text in ("1" * 17, str(10 ** 16), "-" + "1" * 17, "0" * 17, "9" * 5000):
            self.none(text, -10 ** 20, 10 ** 20)

    def test_both_bounds_are_counted(self):
        for low, high in ((0, 9), (-5, 5), (3, 12), (-20, -10), (7, 7), (-10 ** 15, 10 ** 15)):
            self.told(str(low), low, low, high)
            self.told(str(high), high, low, high)

    def test_just_beyond_each_bound_is_none(self):
        for low, high in ((0, 9), (-5, 5), (3, 12), (-20, -10), (7, 7), (-10 ** 15, 10 ** 15)):
            self.none(str(low - 1), low, high)
            self.none(str(high + 1), low, high)

    def test_nought_beyond_the_bounds_is_none(self):
        self.none("0", 1, 9)
        self.none("0", -9, -1)

    def test_what_is_not_written_plainly(self):
        for text in ("", "-", "--", "--1", "-0", "+0", "+1", "+", "0-", "1-", "1-2", "00", "-00", "000",
                     "07", "-07", "007", "01", "0x1", "1e3", "1.0", "1,0", "1_000", "a", "1a", "a1", "None", "True"):
            self.none(text)

    def test_blanks_and_line_feeds(self):
        for sign in (" ", "\n", "  "):
            for text in ("0", "7", "12", "-3"):
                self.none(sign + text)
                self.none(text + sign)
            self.none("1" + sign + "2")
            self.none("-" + sign + "2")
            self.none(sign)

    def test_any_other_sign_among_the_figures(self):
        for code in list(range(128)) + [0x661, 0x967, 0xB2, 0xFF11]:
            sign = chr(code)
            if not "0" <= sign <= "9":
                self.none("1" + sign + "2")
                self.none("12" + sign)
                self.none("-1" + sign)
                if sign != "-":
                    self.none(sign + "12")
                    self.none(sign)


class TestNothingIsChanged(unittest.TestCase):
    def test_what_is_handed_in_stays_and_the_answer_too(self):
        for thing in ([1, [2]], {"a": [1]}, ([1], {"b": 2})):
            before = copy.deepcopy(thing)
            answers = [(is_whole(thing, 0, 9), is_name(thing)) for turn in range(2)]
            self.assertEqual(thing, before)
            self.assertEqual(answers, [(False, False), (False, False)])

    def test_equal_questions_have_equal_answers(self):
        self.assertEqual([number_of("12", 0, 20) for turn in range(3)], [12, 12, 12])


if __name__ == "__main__":
    unittest.main()
