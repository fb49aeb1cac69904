"""Latest turns: points 2, 3, 4, 5, 6, 7, 71, 72, 73, 74 and 75."""

import copy
import inspect
import itertools
import random
import unittest
from fractions import Fraction

from greywait.errors import NoPiece
from greywait.latest import kept_all, latest_all, latest_of, shows_latest, witness_run
from greywait.runs import run_of

MOST_TOP = 1000000
LONG_NUMBER = 10 ** 40 - 1

SLOW = (0, (5, 1), (1, 2), 0)
FAST = (1, (1, 1), (3, 2), 0)
MIDDLE = (2, (4, 1), (1, 1), 0)
NONE_LEFT = (3, (9, 1), (9, 1), 0)
LATE = (4, (9, 1), (0, 1), 6)
CHORES = [(SLOW, 3), (FAST, 2), (MIDDLE, 2), (NONE_LEFT, 0)]
ROWS = [(0, [0, 2]), (1, [0, 2]), (2, [0, 1]), (3, [1])]

NO_PIECES = [
    -1, 3, 5, 10 ** 99, -10 ** 99, True, False, None, "", "0", "1", [], [0], (), (1,), {}, {1: 1}, [[1], {}], (0, [0]),
]
THINGS = [
    0, 1, 2, 3, -1, 10 ** 99, True, False, None, "", "0", [], [0], [[]], [None], (), (0,), (0, [0]), [(0,)], [(0, 0)],
    {}, {0: [0]}, [[0, [0]]], [({}, [])], [(0, [0, [2]])], [(0, [0, 2]), None],
]


def weight_then(claim, turn):
    return Fraction(*claim[1]) + (turn - claim[3]) * Fraction(*claim[2])


def known_run(chores, hands, begin):
    left = {claim[0]: turns for claim, turns in chores}
    rows = []
    turn = begin
    while any(left.values()):
        there = [claim for claim, turns in chores if left[claim[0]] > 0 and claim[3] <= turn]
        places = sorted((-weight_then(claim, turn), claim[3], claim[0]) for claim in there)
        worked = [place[2] for place in places[:hands]]
        for number in worked:
            left[number] -= 1
        rows.append((turn, worked))
        turn += 1
    return rows


def known_latest(chores, hands, begin):
    rows = known_run(chores, hands, begin)
    return {
        claim[0]: max(turn for turn, worked in rows if claim[0] in worked) for claim, left in chores if left > 0
    }


def some_chores(source, many, tops=9, bottoms=4, latest=6, most_left=12):
    return [
        ((number, (source.randint(0, tops), source.randint(1, bottoms)),
          (source.randint(0, tops), source.randint(1, bottoms)), source.randint(0, latest)),
         source.randint(0, most_left))
        for number in source.sample(range(2 * many + 2), many)
    ]


def forty_chores(left=12):
    return [((number, (number % 7, 1 + number % 12), (number % 5, 1 + number % 3), 0), left) for number in range(40)]


class LatestCase(unittest.TestCase):
    def same(self, answer, known):
        # What is written tells truths from numbers, and tuples from lists, too.
        self.assertEqual(answer, known)
        self.assertEqual(repr(answer), repr(known))

    def same_dict(self, answer, known):
        self.assertIs(type(answer), dict)
        self.same(sorted(answer.items()), sorted(known.items()))

    def refused(self, number, asked):
        with self.assertRaises(NoPiece) as caught:
            asked()
        self.assertIs(type(caught.exception), NoPiece)
        self.assertIs(caught.exception.number, number)


class TestInterface(LatestCase):
    def test_names_of_arguments(self):
        self.assertEqual(str(inspect.signature(latest_all)), "(chores, hands, begin)")
        self.assertEqual(str(inspect.signature(latest_of)), "(chores, hands, begin, number)")
        self.assertEqual(str(inspect.signature(witness_run)), "(chores, hands, begin, number)")
        self.assertEqual(str(inspect.signature(shows_latest)), "(chores, hands, begin, number, turn, rows)")
        self.assertEqual(str(inspect.signature(kept_all)), "(chores, hands, begin, told)")


class TestLatest(LatestCase):
    def told(self, chores, hands, begin, known):
        with self.subTest(chores=chores, hands=hands, begin=begin):
            before = copy.deepcopy(chores)
            self.same_dict(latest_all(chores, hands, begin), known)
            rows = known_run(chores, hands, begin)
            for claim, left in chores:
                number = claim[0]
                if left > 0:
                    self.same(latest_of(chores, hands, begin, number), known[number])
                    self.same(
                        witness_run(chores, hands, begin, number), [row for row in rows if row[0] <= known[number]]
                    )
                else:
                    self.refused(number, lambda: latest_of(chores, hands, begin, number))
                    self.refused(number, lambda: witness_run(chores, hands, begin, number))
            self.same(chores, before)

    def test_ordinary_ones(self):
        self.told(CHORES, 1, 0, {0: 2, 1: 6, 2: 4})
        self.told(CHORES, 2, 0, {0: 2, 1: 3, 2: 1})
        self.told(CHORES, 12, 0, {0: 2, 1: 1, 2: 1})
        self.told(CHORES, 1, 5, {0: 11, 1: 7, 2: 8})

    def test_ordinary_witnesses(self):
        self.same(witness_run(CHORES, 2, 0, 0), [(0, [0, 2]), (1, [0, 2]), (2, [0, 1])])
        self.same(witness_run(CHORES, 2, 0, 1), [(0, [0, 2]), (1, [0, 2]), (2, [0, 1]), (3, [1])])
        self.same(witness_run(CHORES, 2, 0, 2), [(0, [0, 2]), (1, [0, 2])])

    def test_the_last_of_rows_that_are_apart(self):
        chores = [(SLOW, 4), (FAST, 2)]
        self.same(run_of(chores, 1, 3), [(3, [0]), (4, [0]), (5, [1]), (6, [1]), (7, [0]), (8, [0])])
        self.told(chores, 1, 3, {0: 8, 1: 6})

    def test_no_chores_and_one(self):
        for hands, begin in itertools.product((1, 12), (0, 1000)):
            self.told([], hands, begin, {})
            self.told([(SLOW, 0)], hands, begin, {})
            self.told([(SLOW, 0), (FAST, 0)], hands, begin, {})
            for left in range(1, 13):
                self.told([(SLOW, left)], hands, begin, {0: begin + left - 1})

    def test_who_comes_later(self):
        self.told([(LATE, 2), (SLOW, 1)], 1, 0, {4: 7, 0: 0})
        self.same(
            witness_run([(LATE, 1), (SLOW, 1)], 1, 3, 4), [(3, [0]), (4, []), (5, []), (6, [4])]
        )
        for begin in (0, 1000):
            far = (9, (1, 1), (1, 1), begin + 400)
            self.told([(far, 12)], 1, begin, {9: begin + 411})

    def test_forty_chores(self):
        chores = forty_chores()
        for hands, begin in ((3, 0), (12, 1000)):
            self.told(chores, hands, begin, known_latest(chores, hands, begin))
        self.same_dict(latest_all(chores, 1, 1000), known_latest(chores, 1, 1000))

    def test_long_numbers(self):
        chores = [((LONG_NUMBER, (1, 1), (1, 1), 0), 2), ((LONG_NUMBER - 1, (2, 2), (3, 3), 0), 1)]
        self.told(chores, 1, 0, {LONG_NUMBER: 2, LONG_NUMBER - 1: 0})

    def test_weights_that_are_otherwise_written(self):
        one = (1, (6, 4), (2, 4), 0)
        other = (0, (3, 2), (1, 2), 0)
        self.told([(one, 2), (other, 2)], 1, 0, {0: 1, 1: 3})

    def test_against_a_walk(self):
        source = random.Random(71)
        for many in list(range(9)) * 8:
            chores = some_chores(source, many)
            hands = source.randint(1, 12)
            begin = source.randint(0, 8)
            self.told(chores, hands, begin, known_latest(chores, hands, begin))
        chores = some_chores(source, 40, MOST_TOP, 12, 1400)
        self.told(chores, 2, 1000, known_latest(chores, 2, 1000))

    def test_no_pieces(self):
        for thing in NO_PIECES:
            with self.subTest(thing=thing):
                self.refused(thing, lambda: latest_of(CHORES, 2, 0, thing))
                self.refused(thing, lambda: witness_run(CHORES, 2, 0, thing))
        for thing in NO_PIECES + [0, 1, 2]:
            with self.subTest(thing=thing):
                self.refused(thing, lambda: latest_of([], 1, 0, thing))
                self.refused(thing, lambda: witness_run([], 1, 0, thing))

    def test_told_things_are_new(self):
        first = latest_all(CHORES, 2, 0)
        first.clear()
        self.same_dict(latest_all(CHORES, 2, 0), {0: 2, 1: 3, 2: 1})
        rows = witness_run(CHORES, 2, 0, 1)
        for row in rows:
            row[1].clear()
        rows.clear()
        self.same(witness_run(CHORES, 2, 0, 1), ROWS)

    def test_what_is_done_to_the_chores_later_changes_nothing(self):
        chores = list(CHORES)
        turns = latest_all(chores, 2, 0)
        rows = witness_run(chores, 2, 0, 1)
        chores.clear()
        self.same_dict(turns, {0: 2, 1: 3, 2: 1})
        self.same(rows, ROWS)


class TestShowsLatest(LatestCase):
    def told(self, known, number, turn, rows, chores=CHORES, hands=2, begin=0):
        with self.subTest(number=number, turn=turn, rows=rows):
            before = copy.deepcopy((chores, number, turn, rows))
            self.assertIs(shows_latest(chores, hands, begin, number, turn, rows), known)
            self.same((chores, number, turn, rows), before)

    def test_the_witness_shows_it(self):
        self.told(True, 0, 2, ROWS[:3])
        self.told(True, 1, 3, ROWS)
        self.told(True, 2, 1, ROWS[:2])

    def test_nothing_else_shows_it(self):
        for number, turn, many in itertools.product(range(-1, 6), range(-1, 6), range(5)):
            self.told((number, turn, many) in [(0, 2, 3), (1, 3, 4), (2, 1, 2)], number, turn, ROWS[:many])

    def test_rows_behind_the_latest_turn(self):
        self.told(False, 1, 3, ROWS + [(4, [])])
        self.told(False, 1, 4, ROWS + [(4, [])])
        self.told(False, 1, 4, ROWS + [(4, [1])])

    def test_no_rows(self):
        for thing in range(-1, 5):
            self.told(False, thing, 0, [])
            self.told(False, thing, 0, [], [])

    def test_who_has_nothing_left(self):
        self.told(False, 3, 3, ROWS)
        self.told(False, 3, 0, [(0, [])], [(NONE_LEFT, 0)], 1)
        self.told(False, 3, 0, [(0, [3])], [(NONE_LEFT, 0)], 1)

    def test_rows_that_walk_with_something_left(self):
        self.told(False, 0, 1, ROWS[:2])
        self.told(False, 1, 2, ROWS[:3])

    def test_rows_that_do_not_walk(self):
        self.told(False, 0, 2, [(0, [2, 0]), (1, [0, 2]), (2, [0, 1])])
        self.told(False, 0, 2, [(0, [0]), (1, [0]), (2, [0])])
        self.told(True, 0, 2, [(0, [0]), (1, [0]), (2, [0])], CHORES, 1)
        self.told(False, 0, 2, ROWS[1:3])
        self.told(False, 1, 3, tuple(ROWS))
        self.told(False, 1, 3, [list(row) for row in ROWS])
        self.told(False, 1, 3, [(row[0], tuple(row[1])) for row in ROWS])
        self.told(False, 0, 2, ROWS[:3], CHORES, 2, 1)
        self.told(False, 1, 2, run_of(CHORES, 2, 0, lambda number: 2))

    def test_truths_are_no_numbers(self):
        self.told(True, 1, 1, [(0, [1]), (1, [1])], [(FAST, 2)], 1)
        self.told(False, True, 1, [(0, [1]), (1, [1])], [(FAST, 2)], 1)
        self.told(False, 1, True, [(0, [1]), (1, [1])], [(FAST, 2)], 1)
        self.told(False, 1, 1, [(0, [1]), (True, [1])], [(FAST, 2)], 1)
        self.told(False, 1, 1, [(0, [1]), (1, [True])], [(FAST, 2)], 1)
        self.told(False, 1, 1, [(False, [1]), (1, [1])], [(FAST, 2)], 1)
        self.told(True, 0, 0, [(0, [0])], [(SLOW, 1)], 1)
        self.told(False, False, 0, [(0, [0])], [(SLOW, 1)], 1)
        self.told(False, 0, False, [(0, [0])], [(SLOW, 1)], 1)

    def test_any_things(self):
        for number, turn, rows in itertools.product(THINGS, THINGS, THINGS):
            if shows_latest(CHORES, 2, 0, number, turn, rows) is not False:
                self.fail((number, turn, rows))
        for thing in THINGS:
            self.told(False, 1, 3, thing)
            self.told(False, 0, 0, thing)
        for number in NO_PIECES:
            for turn in range(4):
                self.told(False, number, turn, ROWS[:turn + 1])
        for thing in THINGS:
            if not (type(thing) is int and thing == 3):
                self.told(False, 1, thing, ROWS)

    def test_just_the_witnesses_of_some_chores(self):
        source = random.Random(73)
        for many in list(range(1, 7)) * 4:
            chores = some_chores(source, many, most_left=4)
            hands = source.randint(1, 3)
            begin = source.randint(0, 4)
            rows = known_run(chores, hands, begin)
            latest = known_latest(chores, hands, begin)
            for claim, left in chores:
                for length in range(len(rows) + 1):
                    turn = begin + length - 1
                    known = latest.get(claim[0]) == turn
                    self.told(known, claim[0], turn, rows[:length], chores, hands, begin)
            for number in latest:
                witness = witness_run(chores, hands, begin, number)
                self.told(True, number, latest_of(chores, hands, begin, number), witness, chores, hands, begin)

    def test_who_comes_later(self):
        rows = [(3, []), (4, []), (5, []), (6, [4])]
        self.told(True, 4, 6, rows, [(LATE, 1)], 1, 3)
        self.told(False, 4, 6, rows, [(LATE, 2)], 1, 3)
        self.told(False, 4, 5, rows[:3], [(LATE, 1)], 1, 3)


class TestKeptAll(LatestCase):
    def told(self, numbers, known, chores=CHORES, hands=2, begin=0):
        with self.subTest(numbers=numbers, chores=chores, hands=hands, begin=begin):
            before = copy.deepcopy((chores, numbers))
            self.same(kept_all(chores, hands, begin, numbers), known)
            self.same((chores, numbers), before)

    def test_kept(self):
        self.told({0: 2, 1: 3, 2: 1}, None)
        self.told({0: 3, 1: 4, 2: 2}, None)
        self.told({0: 10 ** 15, 2: 1}, None)
        self.told({1: 3}, None)
        self.told({}, None)

    def test_not_kept(self):
        self.told({0: 1, 1: 3, 2: 1}, (0, 1, 2, ROWS))
        self.told({0: 2, 1: 2, 2: 1}, (1, 2, 3, ROWS))
        self.told({2: 0}, (2, 0, 1, ROWS))
        self.told({1: 0}, (1, 0, 3, ROWS))

    def test_the_least_number_of_several(self):
        for numbers in itertools.permutations([(0, 0), (1, 1), (2, 0)]):
            self.told(dict(numbers), (0, 0, 2, ROWS))
        self.told({2: 0, 1: 1, 0: 2}, (1, 1, 3, ROWS))
        self.told({2: 0, 0: 9, 1: 9}, (2, 0, 1, ROWS))
        many = [((number, (number, 1), (0, 1), 0), 1) for number in (12, 7, 30, 9)]
        rows = [(0, [30]), (1, [12]), (2, [9]), (3, [7])]
        self.told({30: 0, 12: 0, 9: 1, 7: 3}, (9, 1, 2, rows), many, 1)
        self.told({30: 0, 12: 0, 9: 2, 7: 3}, (12, 0, 1, rows), many, 1)

    def test_numbers_that_are_no_pieces(self):
        self.told({3: 0, 5: 0, 99: 0, LONG_NUMBER: 0}, None)
        self.told({3: 0, 5: 0, 2: 0, LONG_NUMBER: 0}, (2, 0, 1, ROWS))
        self.told({0: 0, 1: 0}, None, [])
        self.told({0: 0, 1: 0}, None, [(SLOW, 0), (FAST, 0)])

    def test_pieces_that_were_told_nothing(self):
        self.told({2: 1}, None)
        self.told({2: 1}, None, CHORES + [((8, (99, 1), (0, 1), 3), 12)])

    def test_turns_nought(self):
        self.told({0: 0}, None, [(SLOW, 1)], 1)
        self.told({0: 0}, (0, 0, 1, [(0, [0]), (1, [0])]), [(SLOW, 2)], 1)

    def test_the_whole_run_is_told(self):
        chores = [(SLOW, 2), (LATE, 1)]
        rows = [(1, [0]), (2, [0]), (3, []), (4, []), (5, []), (6, [4])]
        self.told({0: 1}, (0, 1, 2, rows), chores, 1, 1)

    def test_forty_chores(self):
        chores = forty_chores()
        for hands in (1, 12):
            latest = known_latest(chores, hands, 1000)
            rows = known_run(chores, hands, 1000)
            self.told(latest, None, chores, hands, 1000)
            for number in (0, 17, 39):
                lower = dict(latest)
                lower[number] -= 1
                self.told(lower, (number, latest[number] - 1, latest[number], rows), chores, hands, 1000)

    def test_against_a_walk(self):
        source = random.Random(74)
        found = []
        for many in list(range(8)) * 20:
            chores = some_chores(source, many, most_left=4)
            hands = source.randint(1, 4)
            begin = source.randint(0, 4)
            latest = known_latest(chores, hands, begin)
            numbers = {
                number: max(0, latest.get(number, 5) + source.randint(-1, 6)) for number in source.sample(range(18), 9)
            }
            late = sorted(number for number in latest if latest[number] > numbers.get(number, latest[number]))
            known = None
            if late:
                known = (late[0], numbers[late[0]], latest[late[0]], known_run(chores, hands, begin))
            found.append(len(late))
            self.told(numbers, known, chores, hands, begin)
        self.assertTrue(all(found.count(many) > 5 for many in (0, 1, 2)))

    def test_told_runs_are_new(self):
        first = kept_all(CHORES, 2, 0, {2: 0})
        first[3][0][1].clear()
        first[3].clear()
        self.same(kept_all(CHORES, 2, 0, {2: 0}), (2, 0, 1, ROWS))


class TestNobodyIsLater(LatestCase):
    """Point 75: less work, fewer pieces and more hands at some turns make nobody later."""

    def history(self, chores, hands_at, begin):
        left = {claim[0]: turns for claim, turns in chores}
        last = {}
        turn = begin
        while any(left.values()):
            there = [claim for claim, turns in chores if left[claim[0]] > 0 and claim[3] <= turn]
            places = sorted((-weight_then(claim, turn), claim[3], claim[0]) for claim in there)
            for place in places[:hands_at(turn)]:
                left[place[2]] -= 1
                last[place[2]] = turn
            turn += 1
        return last

    def test_some_histories(self):
        source = random.Random(75)
        for step in range(250):
            chores = some_chores(source, source.randint(1, 9), most_left=5)
            hands = source.randint(1, 3)
            latest = latest_all(chores, hands, 1)
            kept = [(claim, source.randint(0, left)) for claim, left in chores if source.random() < 0.8]
            more = [source.choice([0, 0, 1, 5]) for turn in range(100)]
            last = self.history(kept, lambda turn: hands + more[turn % 100], 1)
            for number in last:
                self.assertLessEqual(last[number], latest[number])
            real = {claim[0]: source.randint(0, 6) for claim, left in chores}
            for turn, worked in run_of(chores, hands, 1, lambda number: real[number]):
                for number in worked:
                    self.assertLessEqual(turn, latest[number])


if __name__ == "__main__":
    unittest.main()
