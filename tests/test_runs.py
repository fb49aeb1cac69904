"""Turns of work and runs: points 2, 3, 4, 5, 6, 7, 51, 52, 53, 54 and 55."""

import copy
import inspect
import itertools
import random
import unittest
from fractions import Fraction

from greywait.errors import NoEnd
from greywait.runs import run_of, turn_done, walk_run

MOST_TOP = 1000000
LONG_NUMBER = 10 ** 40 - 1

SLOW = (0, (5, 1), (1, 2), 0)
FAST = (1, (1, 1), (3, 2), 0)
MIDDLE = (2, (4, 1), (1, 1), 0)
CHORES = [(SLOW, 3), (FAST, 2), (MIDDLE, 2)]

NO_ENDS = [
    -1, -10 ** 99, True, False, None, "", "0", "2", [], [0], (), (1,), {}, {0: 1}, [[1], {}],
]
THINGS = [
    0, 1, -1, 10 ** 99, True, False, None, "", "run", (), (0,), (0, []), {}, {0: []}, {"rows": []}, ((0, [0]),),
]
WRONG_ROWS = [
    0, 1, 10 ** 99, True, None, "", "0: 0", [], [0], [0, [0]], (), (0,), ([0],), (0, [0], 0), (0, [0], []), ([0], 0),
    (0, 0), (0, None), (0, True), (0, ""), (0, "0"), (0, (0,)), (0, {0: 0}), (0, {}), (0, [[0]]), (0, [(0,)]),
    (0, ["0"]), (0, [None]), (0, [False]), (0, []), (0, [0, 0]), (0, [1]), (0, [-1]), (0, [10 ** 99]), (0, [0, 1]),
    (False, [0]), (True, [0]), (None, [0]), ("0", [0]), ([0], [0]), ((0,), [0]), ({}, [0]), (1, [0]), (-1, [0]),
    (10 ** 99, [0]), {}, {0: [0]}, [[1], {}],
]


def weight_then(claim, turn):
    return Fraction(*claim[1]) + (turn - claim[3]) * Fraction(*claim[2])


def known_turn(chores, hands, turn):
    there = [claim for claim, left in chores if left > 0 and claim[3] <= turn]
    rows = sorted((-weight_then(claim, turn), claim[3], claim[0]) for claim in there)
    worked = [row[2] for row in rows[:hands]]
    behind = []
    for claim, left in chores:
        still = left - worked.count(claim[0])
        if still > 0:
            behind.append((claim, still))
    return worked, behind


def known_run(chores, hands, begin):
    rows = []
    turn = begin
    while any(left > 0 for claim, left in chores):
        worked, chores = known_turn(chores, hands, turn)
        rows.append((turn, worked))
        turn += 1
    return rows


def some_chores(source, many, tops=9, bottoms=4, latest=6, most_left=12):
    return [
        ((number, (source.randint(0, tops), source.randint(1, bottoms)),
          (source.randint(0, tops), source.randint(1, bottoms)), source.randint(0, latest)),
         source.randint(0, most_left))
        for number in source.sample(range(2 * many + 2), many)
    ]


def forty_chores(left=12):
    return [((number, (number % 7, 1 + number % 12), (number % 5, 1 + number % 3), 0), left) for number in range(40)]


class RunsCase(unittest.TestCase):
    def same(self, answer, known):
        # What is written tells truths from numbers, and tuples from lists, too.
        self.assertEqual(answer, known)
        self.assertEqual(repr(answer), repr(known))

    def refused(self, number, asked):
        with self.assertRaises(NoEnd) as caught:
            asked()
        self.assertIs(type(caught.exception), NoEnd)
        self.same(caught.exception.number, number)


class TestInterface(RunsCase):
    def test_names_of_arguments(self):
        self.assertEqual(str(inspect.signature(turn_done)), "(chores, hands, turn)")
        self.assertEqual(str(inspect.signature(run_of)), "(chores, hands, begin, real=None)")
        self.assertEqual(str(inspect.signature(walk_run)), "(chores, hands, begin, rows)")


class TestTurnDone(RunsCase):
    def told(self, chores, hands, turn, worked, behind):
        with self.subTest(chores=chores, hands=hands, turn=turn):
            before = copy.deepcopy(chores)
            self.same(turn_done(chores, hands, turn), (worked, behind))
            self.same(chores, before)

    def test_ordinary_turns(self):
        self.told(CHORES, 1, 0, [0], [(SLOW, 2), (FAST, 2), (MIDDLE, 2)])
        self.told(CHORES, 2, 0, [0, 2], [(SLOW, 2), (FAST, 2), (MIDDLE, 1)])
        self.told(CHORES, 2, 6, [1, 2], [(SLOW, 3), (FAST, 1), (MIDDLE, 1)])
        self.told(CHORES, 3, 6, [1, 2, 0], [(SLOW, 2), (FAST, 1), (MIDDLE, 1)])

    def test_no_hands(self):
        self.told(CHORES, 0, 3, [], CHORES)
        self.told([(SLOW, 0), (FAST, 1), (MIDDLE, 0)], 0, 3, [], [(FAST, 1)])
        self.told([], 0, 0, [], [])

    def test_more_hands_than_pieces(self):
        for hands in (3, 4, 12):
            self.told(CHORES, hands, 0, [0, 2, 1], [(SLOW, 2), (FAST, 1), (MIDDLE, 1)])

    def test_no_chores_and_one(self):
        for hands in (1, 12):
            self.told([], hands, 5, [], [])
            self.told([(SLOW, 2)], hands, 5, [0], [(SLOW, 1)])
            self.told([(SLOW, 1)], hands, 5, [0], [])
            self.told([(SLOW, 0)], hands, 5, [], [])

    def test_each_number_of_turns_left(self):
        for left in range(13):
            behind = [(SLOW, left - 1)] if left > 1 else []
            self.told([(SLOW, left)], 1, 0, [0] if left > 0 else [], behind)

    def test_forty_chores(self):
        chores = forty_chores()
        for hands, turn in itertools.product((0, 1, 6, 12), (0, 1, 7, 2000)):
            self.told(chores, hands, turn, *known_turn(chores, hands, turn))
        self.assertEqual(len(turn_done(chores, 12, 0)[0]), 12)

    def test_who_has_no_work_left_takes_no_hand(self):
        self.told([(SLOW, 0), (FAST, 2), (MIDDLE, 2)], 1, 0, [2], [(FAST, 2), (MIDDLE, 1)])
        self.told([(SLOW, 0), (FAST, 2), (MIDDLE, 0)], 2, 0, [1], [(FAST, 1)])

    def test_who_comes_later_is_not_worked_on_and_stays(self):
        late = (3, (9, 1), (9, 1), 5)
        self.told([(late, 2), (SLOW, 2)], 2, 4, [0], [(late, 2), (SLOW, 1)])
        self.told([(late, 2), (SLOW, 2)], 2, 5, [3, 0], [(late, 1), (SLOW, 1)])
        self.told([(late, 2), (SLOW, 1)], 1, 5, [3], [(late, 1), (SLOW, 1)])
        self.told([(late, 0), (SLOW, 1)], 1, 0, [0], [])
        self.told([(late, 12)], 12, 0, [], [(late, 12)])

    def test_equal_weights_go_by_coming_then_by_number(self):
        one = (4, (2, 1), (1, 1), 1)
        earlier = (9, (1, 1), (1, 1), 0)
        lesser = (3, (2, 1), (1, 1), 1)
        chores = [(one, 1), (earlier, 1), (lesser, 1)]
        self.told(chores, 1, 1, [9], [(one, 1), (lesser, 1)])
        self.told(chores, 2, 1, [9, 3], [(one, 1)])
        self.told(chores, 3, 1, [9, 3, 4], [])

    def test_weights_that_are_otherwise_written_stay_so(self):
        one = (1, (6, 4), (2, 4), 0)
        other = (0, (3, 2), (1, 2), 0)
        self.told([(one, 2), (other, 2)], 1, 7, [0], [(one, 2), (other, 1)])
        self.told([(one, 2), (other, 2)], 2, 7, [0, 1], [(one, 1), (other, 1)])

    def test_the_order_of_the_list_stays(self):
        for listed in itertools.permutations(CHORES):
            worked, behind = known_turn(list(listed), 2, 0)
            self.assertEqual(worked, [0, 2])
            self.assertEqual([chore[0] for chore in behind], [chore[0] for chore in listed])
            self.told(list(listed), 2, 0, worked, behind)

    def test_long_numbers(self):
        long_one = (LONG_NUMBER, (1, 1), (1, 1), 0)
        longer = (LONG_NUMBER - 1, (1, 1), (1, 1), 0)
        self.told([(long_one, 2), (longer, 2)], 1, 3, [LONG_NUMBER - 1], [(long_one, 2), (longer, 1)])

    def test_great_weights_that_are_close(self):
        one = (0, (MOST_TOP - 1, 11), (MOST_TOP - 1, 11), 0)
        other = (1, (MOST_TOP, 12), (MOST_TOP, 11), 0)
        chores = [(one, 1), (other, 1)]
        for turn in (0, 1, 1000, 2000):
            self.told(chores, 1, turn, *known_turn(chores, 1, turn))

    def test_against_fractions(self):
        source = random.Random(51)
        for many in list(range(12)) * 20:
            chores = some_chores(source, many, most_left=3)
            hands = source.randint(0, 12)
            turn = source.randint(0, 12)
            self.told(chores, hands, turn, *known_turn(chores, hands, turn))
        for many in (2, 7, 40):
            chores = some_chores(source, many, MOST_TOP, 12, 2000)
            for turn in (0, 1000, 1999, 2000):
                self.told(chores, 5, turn, *known_turn(chores, 5, turn))

    def test_told_lists_are_new(self):
        chores = list(CHORES)
        first = turn_done(chores, 2, 0)
        first[0].clear()
        first[1].clear()
        self.assertEqual(turn_done(chores, 2, 0), ([0, 2], [(SLOW, 2), (FAST, 2), (MIDDLE, 1)]))
        idle = turn_done(chores, 0, 0)
        self.assertIsNot(idle[1], chores)
        idle[1].clear()
        self.assertEqual(chores, CHORES)

    def test_what_is_done_to_the_list_later_changes_nothing(self):
        chores = list(CHORES)
        told = turn_done(chores, 1, 0)
        chores.clear()
        self.assertEqual(told, ([0], [(SLOW, 2), (FAST, 2), (MIDDLE, 2)]))


class TestRunOf(RunsCase):
    def told(self, chores, hands, begin, rows):
        with self.subTest(chores=chores, hands=hands, begin=begin):
            before = copy.deepcopy(chores)
            self.same(run_of(chores, hands, begin), rows)
            self.same(run_of(chores, hands, begin, None), rows)
            self.same(chores, before)

    def test_ordinary_runs(self):
        self.told(CHORES, 1, 0, [(0, [0]), (1, [0]), (2, [0]), (3, [2]), (4, [2]), (5, [1]), (6, [1])])
        self.told(CHORES, 2, 0, [(0, [0, 2]), (1, [0, 2]), (2, [0, 1]), (3, [1])])
        self.told(CHORES, 1, 5, [(5, [2]), (6, [1]), (7, [1]), (8, [2]), (9, [0]), (10, [0]), (11, [0])])

    def test_a_piece_may_wait_again_while_it_is_worked_on(self):
        self.told(
            [(SLOW, 4), (FAST, 2)], 1, 3, [(3, [0]), (4, [0]), (5, [1]), (6, [1]), (7, [0]), (8, [0])]
        )

    def test_nobody_has_work(self):
        for hands, begin in itertools.product((1, 12), (0, 1000)):
            self.told([], hands, begin, [])
            self.told([(SLOW, 0)], hands, begin, [])
            self.told([(SLOW, 0), (FAST, 0)], hands, begin, [])
            self.told([((5, (1, 1), (1, 1), begin + 400), 0)], hands, begin, [])

    def test_one_chore(self):
        for left, hands, begin in itertools.product((1, 2, 12), (1, 12), (0, 1, 1000)):
            self.told([(SLOW, left)], hands, begin, [(begin + step, [0]) for step in range(left)])

    def test_turns_at_which_nobody_is_there(self):
        late = (3, (9, 1), (9, 1), 4)
        self.told([(SLOW, 2), (late, 1)], 1, 0, [(0, [0]), (1, [0]), (2, []), (3, []), (4, [3])])
        self.told([(late, 2)], 1, 2, [(2, []), (3, []), (4, [3]), (5, [3])])
        self.told([(late, 1), (SLOW, 0)], 12, 0, [(0, []), (1, []), (2, []), (3, []), (4, [3])])

    def test_no_rows_of_nobody_stand_at_the_end(self):
        late = (3, (9, 1), (9, 1), 4)
        self.told([(SLOW, 1), (late, 0)], 1, 0, [(0, [0])])

    def test_who_comes_later_may_come_ahead(self):
        late = (3, (9, 1), (9, 1), 1)
        self.told([(SLOW, 2), (late, 2)], 1, 0, [(0, [0]), (1, [3]), (2, [3]), (3, [0])])
        self.told([(SLOW, 2), (late, 2)], 1, 1, [(1, [3]), (2, [3]), (3, [0]), (4, [0])])

    def test_who_comes_four_hundred_turns_later(self):
        for begin in (0, 1, 1000):
            late = (8, (0, 1), (0, 1), begin + 400)
            rows = [(begin + step, []) for step in range(400)] + [(begin + 400, [8]), (begin + 401, [8])]
            self.told([(late, 2)], 12, begin, rows)

    def test_forty_chores(self):
        chores = forty_chores()
        for hands, begin in itertools.product((1, 6, 12), (0, 1000)):
            rows = known_run(chores, hands, begin)
            self.told(chores, hands, begin, rows)
            self.assertEqual(sum(len(row[1]) for row in rows), 480)

    def test_no_hands_come_to_an_end(self):
        self.assertEqual(run_of(CHORES, 0, 0), [])

    def test_against_fractions(self):
        source = random.Random(52)
        for many in list(range(9)) * 15:
            chores = some_chores(source, many)
            begin = source.randint(0, 8)
            hands = source.randint(1, 12)
            self.told(chores, hands, begin, known_run(chores, hands, begin))
        for hands in (1, 2, 12):
            chores = some_chores(source, 40, MOST_TOP, 12, 1400)
            self.told(chores, hands, 1000, known_run(chores, hands, 1000))

    def test_the_order_of_the_list_plays_no_part(self):
        for listed in itertools.permutations(CHORES):
            self.told(list(listed), 2, 0, [(0, [0, 2]), (1, [0, 2]), (2, [0, 1]), (3, [1])])

    def test_told_lists_are_new(self):
        first = run_of(CHORES, 2, 0)
        second = run_of(CHORES, 2, 0)
        for row in first:
            row[1].append(99)
        first.clear()
        self.same(second, [(0, [0, 2]), (1, [0, 2]), (2, [0, 1]), (3, [1])])
        self.same(run_of(CHORES, 2, 0), second)
        idle = run_of([((3, (1, 1), (1, 1), 3), 1)], 1, 0)
        idle[0][1].append(99)
        self.same(idle, [(0, [99]), (1, []), (2, []), (3, [3])])

    def test_rows_are_those_of_turns_done_one_by_one(self):
        source = random.Random(55)
        for many in range(10):
            chores = some_chores(source, many)
            left = chores
            for turn, worked in run_of(chores, 2, 3):
                step = turn_done(left, 2, turn)
                self.assertEqual(step[0], worked)
                left = step[1]
            self.assertEqual([chore for chore in left if chore[1] > 0], [])

    def test_who_is_ahead_is_never_left_waiting_and_no_hand_is_idle(self):
        source = random.Random(550)
        for hands in (1, 2, 3, 12):
            for many in (1, 2, 5, 12):
                chores = some_chores(source, many)
                left = {claim[0]: turns for claim, turns in chores}
                for turn, worked in run_of(chores, hands, 0):
                    there = [claim for claim, turns in chores if claim[3] <= turn and left[claim[0]] > 0]
                    self.assertEqual(len(worked), min(hands, len(there)))
                    for front, back in itertools.permutations(there, 2):
                        if (-weight_then(front, turn), front[3], front[0]) < (-weight_then(back, turn), back[3], back[0]):
                            self.assertTrue(front[0] in worked or back[0] not in worked)
                    for number in worked:
                        left[number] -= 1
                self.assertFalse(any(left.values()))


class TestRunByFunction(RunsCase):
    def told(self, chores, hands, begin, turns, rows):
        with self.subTest(chores=chores, hands=hands, begin=begin, turns=turns):
            before = copy.deepcopy(chores)
            asked = []

            def real(number):
                asked.append(number)
                return turns[number]

            self.same(run_of(chores, hands, begin, real), rows)
            self.same(asked, [claim[0] for claim, left in chores])
            self.same(run_of(chores, hands, begin, real=real), rows)
            self.same(chores, before)

    def test_less_as_much_and_more(self):
        self.told(CHORES, 1, 0, {0: 1, 1: 2, 2: 5}, [(0, [0]), (1, [2]), (2, [2]), (3, [1]), (4, [1])])
        self.told(CHORES, 2, 0, {0: 3, 1: 2, 2: 2}, run_of(CHORES, 2, 0))
        self.told(CHORES, 2, 0, {0: 4, 1: 13, 2: 10 ** 99}, run_of(CHORES, 2, 0))

    def test_nothing(self):
        self.told(CHORES, 2, 0, {0: 0, 1: 0, 2: 0}, [])
        self.told(CHORES, 1, 0, {0: 0, 1: 0, 2: 1}, [(0, [2])])
        self.told([], 1, 0, {}, [])

    def test_who_has_nothing_left_is_asked_too(self):
        self.told([(SLOW, 0), (FAST, 1)], 1, 0, {0: 3, 1: 1}, [(0, [1])])
        self.told([(SLOW, 0)], 12, 7, {0: 12}, [])

    def test_who_comes_later(self):
        late = (3, (9, 1), (9, 1), 4)
        self.told([(late, 5), (SLOW, 2)], 1, 3, {3: 1, 0: 1}, [(3, [0]), (4, [3])])
        self.told([(late, 5), (SLOW, 2)], 1, 0, {3: 0, 0: 1}, [(0, [0])])

    def test_all_are_asked_ahead_of_all_turns(self):
        asked = []
        with self.assertRaises(KeyError):
            run_of(CHORES, 1, 0, lambda number: asked.append(number) or {0: 0, 1: 0}[number])
        self.assertEqual(asked, [0, 1, 2])

    def test_against_chores_that_have_so_much(self):
        source = random.Random(53)
        for many in list(range(9)) * 10:
            chores = some_chores(source, many)
            turns = {claim[0]: source.randint(0, 13) for claim, left in chores}
            hands = source.randint(1, 12)
            taken = [(claim, min(left, turns[claim[0]])) for claim, left in chores]
            self.told(chores, hands, 2, turns, known_run(taken, hands, 2))

    def test_refused(self):
        for thing in NO_ENDS:
            with self.subTest(thing=thing):
                self.refused(1, lambda: run_of(CHORES, 1, 0, lambda number: thing if number == 1 else 1))
                self.refused(0, lambda: run_of([(SLOW, 0)], 1, 0, lambda number: thing))

    def test_the_first_number_of_the_list_is_refused(self):
        for listed in itertools.permutations(CHORES):
            with self.subTest(listed=listed):
                self.refused(listed[0][0][0], lambda: run_of(list(listed), 1, 0, lambda number: -1))
                wrong = [chore[0][0] for chore in listed[1:]]
                self.refused(wrong[0], lambda: run_of(list(listed), 1, 0, lambda number: None if number in wrong else 2))

    def test_no_chores_are_never_refused(self):
        self.assertEqual(run_of([], 1, 0, lambda number: None), [])

    def test_a_refusal_changes_nothing(self):
        chores = list(CHORES)
        self.refused(2, lambda: run_of(chores, 1, 0, lambda number: "no" if number == 2 else 1))
        self.same(chores, CHORES)


class TestWalkRun(RunsCase):
    def told(self, chores, hands, begin, rows, left):
        with self.subTest(chores=chores, hands=hands, begin=begin, rows=rows):
            before = copy.deepcopy((chores, rows))
            self.same(walk_run(chores, hands, begin, rows), left)
            self.same((chores, rows), before)

    def is_none(self, chores, hands, begin, rows):
        self.told(chores, hands, begin, rows, None)

    def test_whole_runs_leave_nothing(self):
        for hands, begin in itertools.product((1, 2, 3, 12), (0, 5, 1000)):
            self.told(CHORES, hands, begin, run_of(CHORES, hands, begin), [])

    def test_parts_of_runs_leave_what_is_left(self):
        self.told(CHORES, 2, 0, [], CHORES)
        self.told(CHORES, 2, 0, [(0, [0, 2])], [(SLOW, 2), (FAST, 2), (MIDDLE, 1)])
        self.told(CHORES, 2, 0, [(0, [0, 2]), (1, [0, 2])], [(SLOW, 1), (FAST, 2)])
        self.told(CHORES, 2, 0, [(0, [0, 2]), (1, [0, 2]), (2, [0, 1])], [(FAST, 1)])
        self.told(CHORES, 2, 0, [(0, [0, 2]), (1, [0, 2]), (2, [0, 1]), (3, [1])], [])

    def test_no_rows(self):
        self.told([], 1, 0, [], [])
        self.told([(SLOW, 0)], 1, 0, [], [])
        self.told([(SLOW, 0), (FAST, 1), (MIDDLE, 0)], 1, 0, [], [(FAST, 1)])
        late = (3, (9, 1), (9, 1), 400)
        self.told([(late, 1), (SLOW, 12)], 1, 0, [], [(late, 1), (SLOW, 12)])

    def test_rows_of_nobody_behind_the_end(self):
        rows = run_of(CHORES, 2, 0)
        for more in range(4):
            self.told(CHORES, 2, 0, rows + [(4 + step, []) for step in range(more)], [])
        self.told([], 1, 7, [(7, []), (8, [])], [])
        self.told([(SLOW, 0)], 1, 7, [(7, [])], [])
        self.is_none(CHORES, 2, 0, rows + [(5, [])])
        self.is_none(CHORES, 2, 0, rows + [(3, [])])
        self.is_none(CHORES, 2, 0, rows + [(4, [1])])
        self.is_none([], 1, 7, [(7, [0])])

    def test_rows_of_nobody_within(self):
        late = (3, (9, 1), (9, 1), 3)
        chores = [(SLOW, 1), (late, 1)]
        rows = [(0, [0]), (1, []), (2, []), (3, [3])]
        self.told(chores, 1, 0, rows, [])
        self.told(chores, 1, 0, rows[:2], [(late, 1)])
        self.is_none(chores, 1, 0, rows[:1] + rows[3:])
        self.is_none(chores, 1, 0, [(0, [0]), (1, [3])])

    def test_things_that_are_no_lists(self):
        for thing in THINGS:
            self.is_none(CHORES, 1, 0, thing)
            self.is_none([], 1, 0, thing)

    def test_a_tuple_of_the_rows_is_none(self):
        self.is_none(CHORES, 2, 0, tuple(run_of(CHORES, 2, 0)))
        self.is_none([], 2, 0, ())

    def test_wrong_rows(self):
        chores = [(SLOW, 2), (MIDDLE, 1)]
        self.told(chores, 1, 0, [(0, [0])], [(SLOW, 1), (MIDDLE, 1)])
        for row in WRONG_ROWS:
            self.is_none(chores, 1, 0, [row])
            self.is_none(chores, 1, 0, [row, (1, [0])])
            self.is_none(chores, 1, 0, [row, row])

    def test_wrong_rows_behind_right_ones(self):
        chores = [(SLOW, 3), (MIDDLE, 1)]
        for row in WRONG_ROWS:
            if row != (1, [0]):
                self.is_none(chores, 1, 0, [(0, [0]), row])
        self.is_none(chores, 1, 0, [(0, [0]), (True, [0])])
        self.is_none(chores, 1, 0, [(0, [0]), (1, [False])])

    def test_truths_are_no_numbers(self):
        chores = [(FAST, 2)]
        self.told(chores, 1, 0, [(0, [1]), (1, [1])], [])
        self.is_none(chores, 1, 0, [(0, [True])])
        self.is_none(chores, 1, 0, [(False, [1])])
        self.is_none(chores, 1, 0, [(0, [1]), (True, [1])])
        self.told(chores, 1, 1, [(1, [1])], [(FAST, 1)])
        self.is_none(chores, 1, 1, [(True, [1])])
        self.is_none([(SLOW, 1)], 1, 0, [(0, [False])])

    def test_the_numbers_stand_in_their_order(self):
        self.told(CHORES, 3, 0, [(0, [0, 2, 1])], [(SLOW, 2), (FAST, 1), (MIDDLE, 1)])
        for numbers in itertools.permutations([0, 1, 2]):
            if numbers != (0, 2, 1):
                self.is_none(CHORES, 3, 0, [(0, list(numbers))])
        self.is_none(CHORES, 3, 0, [(0, [0, 2])])
        self.is_none(CHORES, 3, 0, [(0, [0, 2, 1, 1])])

    def test_another_beginning_or_other_hands(self):
        rows = run_of(CHORES, 2, 0)
        self.is_none(CHORES, 2, 1, rows)
        self.is_none(CHORES, 1, 0, rows)
        self.is_none(CHORES, 3, 0, rows)
        self.is_none(CHORES, 2, 0, rows[1:])
        self.is_none(CHORES, 2, 0, list(reversed(rows)))

    def test_a_run_by_a_function_is_none_where_something_ends_sooner(self):
        self.is_none(CHORES, 1, 0, run_of(CHORES, 1, 0, lambda number: 1))
        self.told(CHORES, 1, 0, run_of(CHORES, 1, 0, lambda number: 12), [])

    def test_forty_chores(self):
        chores = forty_chores()
        for hands in (1, 12):
            rows = run_of(chores, hands, 1000)
            self.assertEqual(walk_run(chores, hands, 1000, rows), [])
            self.assertIsNone(walk_run(chores, hands, 1000, rows[:-1] + [(rows[-1][0], [])]))

    def test_against_turns_done_one_by_one(self):
        source = random.Random(54)
        for many in list(range(8)) * 5:
            chores = some_chores(source, many, most_left=4)
            hands = source.randint(1, 4)
            rows = known_run(chores, hands, 2)
            left = [chore for chore in chores if chore[1] > 0]
            for place in range(len(rows) + 1):
                self.told(chores, hands, 2, rows[:place], left)
                if place < len(rows):
                    left = known_turn(left, hands, rows[place][0])[1]
            self.assertEqual(left, [])

    def test_one_changed_row_is_none(self):
        source = random.Random(540)
        for many in list(range(1, 8)) * 5:
            chores = some_chores(source, many, most_left=4)
            hands = source.randint(1, 4)
            rows = known_run(chores, hands, 2)
            for place in range(len(rows)):
                turn, worked = rows[place]
                for row in [(turn + 1, worked), (turn, worked + [99]), (turn, worked[1:] + [99]), (turn, tuple(worked)),
                            [turn, worked]]:
                    self.is_none(chores, hands, 2, rows[:place] + [row] + rows[place + 1:])

    def test_told_lists_are_new(self):
        chores = list(CHORES)
        for rows in ([], [(0, [0, 2])]):
            first = walk_run(chores, 2, 0, rows)
            self.assertIsNot(first, chores)
            second = walk_run(chores, 2, 0, rows)
            first.clear()
            self.assertEqual(len(second), 3)
            self.same(chores, CHORES)


if __name__ == "__main__":
    unittest.main()
