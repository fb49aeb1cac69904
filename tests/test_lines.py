"""How answers are written: points 102 and 104, and how lines are read: point 101."""

import copy
import inspect
import unittest

from greywait.lines import row_text, verdict_text
from greywait.verdicts import Granted, LateOne


class TestInterface(unittest.TestCase):
    def test_names_of_arguments(self):
        self.assertEqual(str(inspect.signature(row_text)), "(row)")
        self.assertEqual(str(inspect.signature(verdict_text)), "(verdict)")


class TestRowText(unittest.TestCase):
    def told(self, row, known):
        with self.subTest(row=row):
            before = copy.deepcopy(row)
            self.assertEqual(row_text(row), known)
            self.assertEqual(row, before)

    def test_rows(self):
        self.told((0, [0]), "0: 0")
        self.told((5, [1, 2]), "5: 1 2")
        self.told((5, [2, 1]), "5: 2 1")
        self.told((1000, [12, 7, 600]), "1000: 12 7 600")

    def test_rows_without_numbers(self):
        self.told((0, []), "0: -")
        self.told((17, []), "17: -")

    def test_long_numbers(self):
        self.told((10 ** 15, [10 ** 39, 0]), "1000000000000000: 1" + "0" * 39 + " 0")
        self.told((3, list(range(12))), "3: 0 1 2 3 4 5 6 7 8 9 10 11")


class TestVerdictText(unittest.TestCase):
    def test_granted(self):
        self.assertEqual(verdict_text(Granted(None)), "granted")
        self.assertEqual(verdict_text(Granted(0)), "granted 0")
        self.assertEqual(verdict_text(Granted(12)), "granted 12")

    def test_late(self):
        self.assertEqual(verdict_text(LateOne(0, 0, 1, [(0, [1]), (1, [0])])), "late 0 told 0 over 1")
        self.assertEqual(verdict_text(LateOne(3, 14, 159, [])), "late 3 told 14 over 159")

    def test_a_verdict_stays_as_it_was(self):
        verdict = LateOne(3, 14, 15, [(14, [3]), (15, [3])])
        verdict_text(verdict)
        self.assertEqual(verdict.told(), ("late", 3, 14, 15, [(14, [3]), (15, [3])]))


if __name__ == "__main__":
    unittest.main()
