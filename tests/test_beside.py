"""Histories beside one another: points 2, 3, 4, 5, 6, 81, 82, 83 and 84."""

import copy
import inspect
import itertools
import random
import unittest
from fractions import Fraction

from greywait.beside import eases, first_worse, left_by
from greywait.runs import run_of

MOST_TOP = 1000000
LONG_NUMBER = 10 ** 40 - 1

SLOW = (0, (5, 1), (1, 2), 0)
FAST = (1, (1, 1), (3, 2), 0)
MIDDLE = (2, (4, 1), (1, 1), 0)
LATE = (4, (9, 1), (0, 1), 3)
CHORES = [(SLOW, 3), (FAST, 2), (MIDDLE, 2)]
ROWS = [(0, [0, 2]), (1, [0, 2]), (2, [0, 1]), (3, [1])]


def known_left(chores, rows, turn):
    told = {}
    for claim, left in chores:
        worked = len([row for row in rows if row[0] <= turn and claim[0] in row[1]])
        told[claim[0]] = max(0, left - worked)
    return told


def known_worse(chores, rows, other, other_rows):
    for turn in sorted({row[0] for row in rows + other_rows}):
        left = known_left(chores, rows, turn)
        other_left = known_left(other, other_rows, turn)
        worse = sorted(number for number in other_left if other_left[number] > left.get(number, 0))
        if worse:
            return (turn, worse[0])
    return None


def known_eases(chores, hands, other, other_hands):
    first = {
        (claim[0], Fraction(*claim[1]), Fraction(*claim[2]), claim[3]): left for claim, left in chores
    }
    return hands <= other_hands and all(
        left <= first.get((claim[0], Fraction(*claim[1]), Fraction(*claim[2]), claim[3]), -1) for claim, left in other
    )


def some_chores(source, many, tops=9, bottoms=4, latest=6, most_left=12):
    return [
        ((number, (source.randint(0, tops), source.randint(1, bottoms)),
          (source.randint(0, tops), source.randint(1, bottoms)), source.randint(0, latest)),
         source.randint(0, most_left))
        for number in source.sample(range(2 * many + 2), many)
    ]


def forty_chores(left=12):
    return [((number, (number % 7, 1 + number % 12), (number % 5, 1 + number % 3), 0), left) for number in range(40)]


def otherwise_written(claim, factor):
    return (claim[0], (claim[1][0] * factor, claim[1][1] * factor), (claim[2][0] * factor, claim[2][1] * factor), claim[3])


class BesideCase(unittest.TestCase):
    def same(self, answer, known):
        # What is written tells truths from numbers, and tuples from lists, too.
        self.assertEqual(answer, known)
        self.assertEqual(repr(answer), repr(known))


class TestInterface(BesideCase):
    def test_names_of_arguments(self):
        self.assertEqual(str(inspect.signature(left_by)), "(chores, rows, turn)")
        self.assertEqual(str(inspect.signature(first_worse)), "(chores, rows, other, other_rows)")
        self.assertEqual(str(inspect.signature(eases)), "(chores, hands, other, other_hands)")


class TestLeftBy(BesideCase):
    def told(self, chores, rows, turn, known):
        with self.subTest(chores=chores, rows=rows, turn=turn):
            before = copy.deepcopy((chores, rows))
            answer = left_by(chores, rows, turn)
            self.assertIs(type(answer), dict)
            self.same(sorted(answer.items()), sorted(known.items()))
            self.same((chores, rows), before)

    def test_ordinary_ones(self):
        self.told(CHORES, ROWS, 0, {0: 2, 1: 2, 2: 1})
        self.told(CHORES, ROWS, 1, {0: 1, 1: 2, 2: 0})
        self.told(CHORES, ROWS, 2, {0: 0, 1: 1, 2: 0})
        self.told(CHORES, ROWS, 3, {0: 0, 1: 0, 2: 0})

    def test_turns_behind_the_run_and_ahead_of_it(self):
        for turn in (4, 2000, 10 ** 15):
            self.told(CHORES, ROWS, turn, {0: 0, 1: 0, 2: 0})
        rows = run_of(CHORES, 2, 10)
        for turn in (0, 9):
            self.told(CHORES, rows, turn, {0: 3, 1: 2, 2: 2})
        self.told(CHORES, rows, 10, known_left(CHORES, rows, 10))

    def test_no_chores_and_no_rows(self):
        self.told([], [], 0, {})
        self.told([], [(0, [])], 0, {})
        self.told(CHORES, [], 7, {0: 3, 1: 2, 2: 2})
        self.told([(SLOW, 0)], [], 0, {0: 0})

    def test_who_has_nothing_left_is_told_too(self):
        self.told([(SLOW, 0), (FAST, 1)], [(0, [1])], 0, {0: 0, 1: 0})
        self.told([(SLOW, 0), (FAST, 1)], [(0, [1])], 10, {0: 0, 1: 0})

    def test_a_run_by_a_function_leaves_what_was_not_worked(self):
        rows = run_of(CHORES, 2, 0, lambda number: 1)
        self.same(rows, [(0, [0, 2]), (1, [1])])
        self.told(CHORES, rows, 0, {0: 2, 1: 2, 2: 1})
        self.told(CHORES, rows, 1, {0: 2, 1: 1, 2: 1})
        self.told(CHORES, rows, 99, {0: 2, 1: 1, 2: 1})

    def test_never_below_nought(self):
        self.told([(SLOW, 1)], [(0, [0]), (1, [0]), (2, [0])], 2, {0: 0})
        self.told([(SLOW, 1), (FAST, 0)], [(0, [0, 1]), (1, [1, 0])], 1, {0: 0, 1: 0})

    def test_turns_of_nobody(self):
        chores = [(LATE, 2), (SLOW, 1)]
        rows = run_of(chores, 1, 0)
        self.same(rows, [(0, [0]), (1, []), (2, []), (3, [4]), (4, [4])])
        self.told(chores, rows, 2, {4: 2, 0: 0})
        self.told(chores, rows, 3, {4: 1, 0: 0})

    def test_long_numbers(self):
        self.told([((LONG_NUMBER, (1, 1), (1, 1), 0), 3)], [(0, [LONG_NUMBER])], 0, {LONG_NUMBER: 2})

    def test_forty_chores(self):
        chores = forty_chores()
        rows = run_of(chores, 7, 1000)
        for turn in (999, 1000, 1001, 1040, 1069, 2000):
            self.told(chores, rows, turn, known_left(chores, rows, turn))

    def test_against_a_count(self):
        source = random.Random(81)
        for many in list(range(9)) * 5:
            chores = some_chores(source, many)
            real = {claim[0]: source.randint(0, 12) for claim, left in chores}
            for rows in (run_of(chores, 2, 1), run_of(chores, 3, 1, lambda number: real[number])):
                for turn in (0, 1, 2, 5, 9, 30):
                    self.told(chores, rows, turn, known_left(chores, rows, turn))

    def test_told_dicts_are_new(self):
        first = left_by(CHORES, ROWS, 0)
        first.clear()
        self.told(CHORES, ROWS, 0, {0: 2, 1: 2, 2: 1})
        chores, rows = list(CHORES), copy.deepcopy(ROWS)
        second = left_by(chores, rows, 0)
        chores.clear()
        rows[0][1].clear()
        self.assertEqual(second, {0: 2, 1: 2, 2: 1})


class TestFirstWorse(BesideCase):
    def told(self, chores, rows, other, other_rows, known):
        with self.subTest(chores=chores, rows=rows, other=other, other_rows=other_rows):
            before = copy.deepcopy((chores, rows, other, other_rows))
            self.same(first_worse(chores, rows, other, other_rows), known)
            self.same((chores, rows, other, other_rows), before)

    def test_a_history_beside_itself(self):
        self.told(CHORES, ROWS, CHORES, ROWS, None)
        self.told([], [], [], [], None)

    def test_more_hands_and_fewer(self):
        rows = run_of(CHORES, 1, 0)
        self.same(rows, [(0, [0]), (1, [0]), (2, [0]), (3, [2]), (4, [2]), (5, [1]), (6, [1])])
        self.told(CHORES, rows, CHORES, ROWS, None)
        self.told(CHORES, ROWS, CHORES, rows, (0, 2))

    def test_the_least_turn_and_the_least_number_then(self):
        first = [(0, [2]), (1, [0]), (2, [1])]
        chores = [(SLOW, 1), (FAST, 1), (MIDDLE, 1)]
        self.told(chores, first, chores, [(0, [0]), (1, [1]), (2, [2])], (0, 2))
        self.told(chores, first, chores, [(0, [2]), (1, [1]), (2, [0])], (1, 0))
        self.told(chores, first, chores, [(0, []), (1, []), (2, [0])], (0, 2))
        self.told(chores, [(0, [0, 1, 2])], chores, [(0, []), (1, [0, 1, 2])], (0, 0))
        self.told(chores, [(0, [1, 2])], chores, [(0, [2]), (1, [0, 1])], (0, 1))
        shuffled = [chores[2], chores[0], chores[1]]
        self.told(chores, [(0, [0, 1, 2])], shuffled, [(0, []), (1, [0, 1, 2])], (0, 0))

    def test_chores_that_the_first_ones_have_not(self):
        self.told([(SLOW, 3)], [(0, [0]), (1, [0]), (2, [0])], CHORES, ROWS, (0, 1))
        chores = [(SLOW, 2)]
        rows = [(0, [0]), (1, [0])]
        self.told(chores, rows, CHORES, ROWS, (0, 0))
        self.told([], [], CHORES, ROWS, (0, 0))
        self.told([], [], [(SLOW, 1)], [(0, [0])], None)
        self.told([], [], [(SLOW, 2)], [(0, [0]), (1, [0])], (0, 0))
        self.told(chores, rows, [(SLOW, 2), (FAST, 0)], rows, None)
        self.told(CHORES, ROWS, [], [], None)

    def test_turns_of_the_longer_run(self):
        chores = [(SLOW, 4)]
        rows = [(3, [0]), (4, [0]), (5, [0]), (6, [0])]
        by_function = run_of(chores, 1, 3, lambda number: 2)
        self.same(by_function, rows[:2])
        self.told(chores, rows, chores, by_function, (5, 0))
        self.told(chores, by_function, chores, rows, None)
        self.told(chores, rows, chores, [], (3, 0))
        self.told(chores, [], chores, rows, None)

    def test_without_a_row_there_is_no_turn(self):
        self.told([], [], CHORES, [], None)
        self.told([(SLOW, 1)], [], [(SLOW, 5)], [], None)
        self.told([(SLOW, 1)], [], [(SLOW, 5)], [(7, [])], (7, 0))
        self.told([(SLOW, 1)], [(7, [])], [(SLOW, 5)], [], (7, 0))

    def test_more_left_from_the_beginning_on(self):
        self.told([(SLOW, 1)], [(0, [0])], [(SLOW, 2)], [(0, [0]), (1, [0])], (0, 0))
        self.told([(SLOW, 1)], [(0, [])], [(SLOW, 2)], [(0, [0])], None)
        self.told([(SLOW, 2)], [(0, [0]), (1, [0])], [(SLOW, 1)], [(0, [0])], None)

    def test_never_below_nought(self):
        chores = [(SLOW, 1)]
        self.told(chores, [(0, [0]), (1, [0]), (2, [0])], chores, [(0, [0])], None)
        self.told(chores, [(0, [0]), (1, [0]), (2, [0])], chores, [(0, []), (1, [0])], (0, 0))

    def test_unlike_claims_are_told_by_their_numbers(self):
        other = (0, (9, 1), (9, 1), 1)
        self.told([(SLOW, 1)], [(0, [0])], [(other, 1)], [(0, []), (1, [0])], (0, 0))
        self.told([(other, 1)], [(0, []), (1, [0])], [(SLOW, 1)], [(0, [0])], None)

    def test_forty_chores(self):
        chores = forty_chores()
        rows = run_of(chores, 1, 1000)
        other_rows = run_of(chores, 12, 1000)
        self.told(chores, rows, chores, other_rows, None)
        self.told(chores, other_rows, chores, rows, known_worse(chores, other_rows, chores, rows))

    def test_the_turns_are_gone_over_as_they_rise(self):
        chores = forty_chores(1)
        for begin in range(980, 1001):
            rows = run_of(chores, 2, begin)
            other_rows = run_of(chores, 1, begin)
            self.told(chores, rows, chores, other_rows, (begin, rows[0][1][1]))
            self.told([], [], chores, other_rows, (begin, 1 if 0 in other_rows[0][1] else 0))

    def test_against_what_is_left(self):
        source = random.Random(82)
        found = []
        for step in range(400):
            chores = some_chores(source, source.randint(0, 5), most_left=4)
            other = [
                (claim, max(0, left + source.choice([-1, 0, 0, 0, 1]))) for claim, left in chores if source.random() < 0.9
            ]
            real = {number: source.randint(1, 5) for number in range(20)}
            rows = run_of(chores, source.randint(1, 3), 2, source.choice([None, lambda number: real[number]]))
            other_rows = run_of(other, source.randint(1, 5), 2, source.choice([None, lambda number: real[number]]))
            known = known_worse(chores, rows, other, other_rows)
            found.append("none" if known is None else "first" if known[0] == 2 else "later")
            self.told(chores, rows, other, other_rows, known)
        for kind in ("none", "first", "later"):
            self.assertGreater(found.count(kind), 30)


class TestEases(BesideCase):
    def told(self, chores, hands, other, other_hands, known):
        with self.subTest(chores=chores, hands=hands, other=other, other_hands=other_hands):
            before = copy.deepcopy((chores, other))
            self.assertIs(eases(chores, hands, other, other_hands), known)
            self.same((chores, other), before)

    def test_the_same_chores(self):
        for hands in (1, 2, 12):
            self.told(CHORES, hands, CHORES, hands, True)
            self.told(CHORES, hands, list(reversed(CHORES)), hands, True)
            self.told([], hands, [], hands, True)

    def test_hands(self):
        self.told(CHORES, 2, CHORES, 3, True)
        self.told(CHORES, 2, CHORES, 12, True)
        self.told(CHORES, 2, CHORES, 1, False)
        self.told([], 2, [], 1, False)
        self.told(CHORES, 12, [], 11, False)

    def test_fewer_chores_and_more(self):
        for many in range(4):
            for other in itertools.permutations(CHORES, many):
                self.told(CHORES, 1, list(other), 1, True)
                self.told(list(other), 1, CHORES, 1, many == 3)
        self.told([], 1, [(SLOW, 1)], 12, False)
        self.told([], 1, [(SLOW, 0)], 1, False)
        self.told(CHORES, 1, CHORES + [(LATE, 0)], 1, False)
        self.told(CHORES, 1, [(LATE, 0)] + CHORES, 1, False)

    def test_less_work_and_more(self):
        for left, other_left in itertools.product(range(13), range(13)):
            self.told([(SLOW, left)], 1, [(SLOW, other_left)], 1, other_left <= left)
        self.told(CHORES, 1, [(SLOW, 3), (FAST, 2), (MIDDLE, 3)], 12, False)
        self.told(CHORES, 1, [(SLOW, 4), (FAST, 1), (MIDDLE, 1)], 12, False)
        self.told(CHORES, 1, [(SLOW, 0), (FAST, 2), (MIDDLE, 1)], 1, True)

    def test_unlike_claims(self):
        for claim in [
            (5, (5, 1), (1, 2), 0), (0, (4, 1), (1, 2), 0), (0, (6, 1), (1, 2), 0), (0, (5, 1), (1, 3), 0),
            (0, (5, 1), (2, 3), 0), (0, (5, 1), (1, 2), 1), (0, (5, 2), (1, 2), 0), (0, (5, 1), (2, 2), 0),
            (0, (1, 2), (5, 1), 0), (1, (5, 1), (1, 2), 0), (2, (5, 1), (1, 2), 0),
        ]:
            self.told(CHORES, 1, [(claim, 1)], 12, False)
            self.told(CHORES, 1, [(SLOW, 1), (claim, 0)], 12, False)
            self.told([(claim, 12)], 1, [(SLOW, 1)], 12, False)

    def test_weights_that_are_otherwise_written(self):
        for factor in (2, 3, 6):
            other = [(otherwise_written(claim, factor), left) for claim, left in CHORES]
            self.told(CHORES, 1, other, 1, True)
            self.told(other, 1, CHORES, 1, True)
        self.told([((0, (0, 1), (0, 12), 0), 1)], 1, [((0, (0, 7), (0, 1), 0), 1)], 1, True)
        self.told([((0, (2, 3), (4, 6), 0), 1)], 1, [((0, (4, 6), (2, 3), 0), 1)], 1, True)

    def test_great_weights_that_are_close(self):
        one = (0, (MOST_TOP - 1, 12), (MOST_TOP, 11), 0)
        other = (0, (MOST_TOP, 12), (MOST_TOP, 11), 0)
        slower = (0, (MOST_TOP - 1, 12), (MOST_TOP - 1, 11), 0)
        self.told([(one, 1)], 1, [(one, 1)], 1, True)
        self.told([(one, 1)], 1, [(other, 1)], 1, False)
        self.told([(one, 1)], 1, [(slower, 1)], 1, False)

    def test_long_numbers(self):
        one = (LONG_NUMBER, (1, 1), (1, 1), 0)
        other = (LONG_NUMBER - 1, (1, 1), (1, 1), 0)
        self.told([(one, 1)], 1, [(one, 1)], 1, True)
        self.told([(one, 1)], 1, [(other, 1)], 1, False)

    def test_forty_chores(self):
        self.told(forty_chores(), 6, forty_chores(11), 6, True)
        self.told(forty_chores(11), 6, forty_chores(), 6, False)
        self.told(forty_chores()[1:], 6, forty_chores(), 6, False)

    def test_against_fractions(self):
        source = random.Random(83)
        found = []
        for step in range(600):
            chores = some_chores(source, source.randint(0, 4), most_left=4)
            other = []
            for claim, left in chores:
                claim = otherwise_written(claim, source.randint(1, 3))
                if source.random() < 0.1:
                    claim = (claim[0], claim[1], claim[2], claim[3] + 1)
                other.append((claim, max(0, left - source.choice([-1, 0, 0, 0, 0, 1, 2]))))
            hands, other_hands = source.choice([(1, 1), (2, 2), (2, 5), (3, 2)])
            known = known_eases(chores, hands, other, other_hands)
            found.append(known)
            self.told(chores, hands, other, other_hands, known)
        self.assertGreater(min(found.count(True), found.count(False)), 100)


class TestWhoEasesIsNeverWorse(BesideCase):
    """Point 84: whoever eases has nobody with more left behind any turn, and nobody that is later."""

    def eased(self, source, chores):
        return [
            (otherwise_written(claim, source.choice([1, 2, 3])), source.randint(0, left))
            for claim, left in source.sample(chores, source.randint(0, len(chores)))
        ]

    def last_turns(self, rows):
        return {number: turn for turn, worked in rows for number in worked}

    def test_some_histories(self):
        source = random.Random(84)
        for step in range(400):
            chores = some_chores(source, source.randint(0, 8), tops=source.choice([3, 9, 300]), most_left=6)
            other = self.eased(source, chores)
            hands = source.randint(1, 4)
            other_hands = source.randint(hands, 6)
            self.assertIs(eases(chores, hands, other, other_hands), True)
            begin = source.randint(0, 7)
            rows = run_of(chores, hands, begin)
            real = {claim[0]: source.randint(0, 6) for claim, left in other}
            for function in (None, lambda number: real[number]):
                other_rows = run_of(other, other_hands, begin, function)
                taken = other
                if function is not None:
                    taken = [(claim, min(left, real[claim[0]])) for claim, left in other]
                    self.assertEqual(other_rows, run_of(taken, other_hands, begin))
                    self.assertIs(eases(chores, hands, taken, other_hands), True)
                self.assertIsNone(first_worse(chores, rows, taken, other_rows))
                last = self.last_turns(rows)
                other_last = self.last_turns(other_rows)
                for number in other_last:
                    self.assertLessEqual(other_last[number], last[number])


if __name__ == "__main__":
    unittest.main()
