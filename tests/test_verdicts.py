"""Verdicts: points 6 and 92."""

import copy
import inspect
import unittest

from greywait.verdicts import Granted, LateOne, Verdict

RUN = [(3, [2, 0]), (4, []), (5, [1])]


class VerdictCase(unittest.TestCase):
    def same(self, answer, known):
        # What is written tells truths from numbers, and tuples from lists, too.
        self.assertEqual(answer, known)
        self.assertEqual(repr(answer), repr(known))


class TestInterface(VerdictCase):
    def test_names_of_arguments(self):
        self.assertEqual(str(inspect.signature(Granted)), "(number)")
        self.assertEqual(str(inspect.signature(LateOne)), "(number, due, turn, run)")

    def test_classes(self):
        self.assertEqual(Granted.__bases__, (Verdict,))
        self.assertEqual(LateOne.__bases__, (Verdict,))
        for name in ("granted", "word", "told"):
            self.assertTrue(callable(getattr(Verdict, name)))


class TestGranted(VerdictCase):
    def test_with_and_without_a_number(self):
        for number in (0, 1, 39, 599, None):
            verdict = Granted(number)
            self.same(verdict.number, number)
            self.same(verdict.granted(), True)
            self.same(verdict.word(), "granted")
            self.same(verdict.told(), ("granted", number))


class TestLateOne(VerdictCase):
    def test_what_it_tells(self):
        for run in (RUN, [], [(0, [0])]):
            verdict = LateOne(1, 4, 5, run)
            self.same((verdict.number, verdict.due, verdict.turn, verdict.run), (1, 4, 5, run))
            self.same(verdict.granted(), False)
            self.same(verdict.word(), "late")
            self.same(verdict.told(), ("late", 1, 4, 5, run))

    def test_each_value_at_its_place(self):
        verdict = LateOne(7, 8, 9, [(6, [7])])
        self.same((verdict.number, verdict.due, verdict.turn, verdict.run), (7, 8, 9, [(6, [7])]))

    def test_its_run_is_its_own(self):
        run = copy.deepcopy(RUN)
        verdict = LateOne(1, 4, 5, run)
        run[0][1].append(9)
        run.pop()
        self.same(verdict.run, RUN)
        self.same(verdict.told(), ("late", 1, 4, 5, RUN))

    def test_what_is_handed_in_stays(self):
        run = copy.deepcopy(RUN)
        LateOne(1, 4, 5, run).told()[4].append(None)
        self.same(run, RUN)

    def test_what_is_told_is_new_each_time(self):
        verdict = LateOne(1, 4, 5, RUN)
        told = verdict.told()[4]
        told[0][1].append(9)
        told.pop()
        self.same(verdict.told(), ("late", 1, 4, 5, RUN))
        self.same(verdict.run, RUN)

    def test_two_of_one_run_have_nothing_in_common(self):
        one = LateOne(1, 4, 5, RUN)
        other = LateOne(1, 4, 5, one.run)
        self.assertIsNot(one.run, other.run)
        for row, other_row in zip(one.run, other.run):
            self.assertIsNot(row[1], other_row[1])


class TestEqual(VerdictCase):
    def test_by_kind_and_values(self):
        verdicts = [
            Granted(None), Granted(0), Granted(1), LateOne(1, 4, 5, RUN), LateOne(0, 4, 5, RUN), LateOne(1, 3, 5, RUN),
            LateOne(1, 4, 6, RUN), LateOne(1, 4, 5, []),
        ]
        for place, verdict in enumerate(verdicts):
            for other_place, other in enumerate(copy.deepcopy(verdicts)):
                self.assertEqual(verdict == other, place == other_place)

    def test_with_other_things(self):
        for thing in (None, 1, "granted", ("granted", 1), []):
            self.assertFalse(Granted(1) == thing)
            self.assertTrue(Granted(1) != thing)


if __name__ == "__main__":
    unittest.main()
