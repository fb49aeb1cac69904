"""Orders of claims and their changes: points 2, 3, 5, 6, 7, 8, 31, 32, 33, 34 and 35."""

import copy
import itertools
import random
import unittest
from fractions import Fraction

from greywait.errors import NoPiece, NoTurn
from greywait.orders import changes, for_ever, last_change, next_change, order_at, rank_at

MOST_TURN = 10 ** 15
MOST_TOP = 1000000
LONG_NUMBER = 10 ** 40 - 1

NO_TURNS = [
    -1, MOST_TURN + 1, 10 ** 99, -10 ** 99, True, False, None, "", "0", "now", [], [0], (), (0,), {}, {0: 0}, [[1], {}],
]
NO_NUMBERS = [
    -1, 5, 10 ** 99, True, False, None, "", "0", "1", [], [0], (), (1,), {}, {1: 1}, [[1], {}],
]

SLOW = (0, (5, 1), (1, 2), 0)
FAST = (1, (1, 1), (3, 2), 0)
MIDDLE = (2, (4, 1), (1, 1), 0)


def number_at(claim, turn):
    return Fraction(*claim[1]) + (turn - claim[3]) * Fraction(*claim[2])


def known_order(claims, turn):
    rows = sorted((-number_at(claim, turn), claim[3], claim[0]) for claim in claims)
    return [row[2] for row in rows]


def walked_changes(claims, first, last):
    found = []
    before = known_order(claims, first)
    for turn in range(first + 1, last + 1):
        now = known_order(claims, turn)
        for passes, passed in itertools.permutations(now, 2):
            if now.index(passes) < now.index(passed) and before.index(passes) > before.index(passed):
                found.append((turn, passes, passed))
        before = now
    return sorted(found)


def some_claims(source, many, tops=9, bottoms=4, latest=3):
    return [
        (number, (source.randint(0, tops), source.randint(1, bottoms)),
         (source.randint(0, tops), source.randint(1, bottoms)), source.randint(0, latest))
        for number in source.sample(range(2 * many + 2), many)
    ]


def far_claims(source, many):
    return some_claims(source, many, MOST_TOP, 12, MOST_TURN)


def latest_coming(claims):
    return max([claim[3] for claim in claims], default=0)


class OrdersCase(unittest.TestCase):
    def refused(self, error, field, thing, asked):
        with self.assertRaises(error) as caught:
            asked()
        self.assertIs(type(caught.exception), error)
        self.assertIs(getattr(caught.exception, field), thing)

    def a_list(self, answer, known):
        self.assertEqual(answer, known)
        self.assertIs(type(answer), list)


class TestOrderAt(OrdersCase):
    def told(self, claims, turn, numbers):
        for listed in itertools.permutations(claims):
            with self.subTest(claims=listed, turn=turn):
                self.a_list(order_at(list(listed), turn), numbers)

    def test_no_claims_and_one(self):
        for turn in (0, 1, MOST_TURN):
            self.told([], turn, [])
            self.told([SLOW], turn, [0])
        self.told([(7, (0, 1), (0, 1), MOST_TURN)], MOST_TURN, [7])

    def test_ordinary_ones(self):
        self.told([SLOW, FAST, MIDDLE], 0, [0, 2, 1])
        self.told([SLOW, FAST, MIDDLE], 2, [0, 2, 1])
        self.told([SLOW, FAST, MIDDLE], 3, [2, 0, 1])
        self.told([SLOW, FAST, MIDDLE], 5, [2, 1, 0])
        self.told([SLOW, FAST, MIDDLE], 6, [1, 2, 0])
        self.told([SLOW, FAST, MIDDLE], MOST_TURN, [1, 2, 0])

    def test_of_equal_weights_who_came_first_then_the_lesser_number(self):
        claims = [(9, (3, 1), (1, 1), 0), (4, (5, 1), (1, 1), 2), (3, (5, 1), (1, 1), 2), (0, (6, 1), (1, 1), 3)]
        self.told(claims, 3, [9, 3, 4, 0])
        self.told(claims, MOST_TURN, [9, 3, 4, 0])

    def test_one_number_otherwise_written(self):
        claims = [(2, (1, 2), (1, 3), 1), (1, (2, 4), (4, 12), 1), (0, (6, 12), (3, 9), 1), (3, (5, 10), (2, 6), 1)]
        self.told(claims, 1, [0, 1, 2, 3])
        self.told(claims, MOST_TURN, [0, 1, 2, 3])

    def test_a_claim_that_comes_at_just_the_turn(self):
        self.told([(0, (1, 1), (1, 1), 0), (1, (9, 1), (0, 1), 5)], 5, [1, 0])
        self.told([(0, (1, 1), (1, 1), 0), (1, (6, 1), (0, 1), 5)], 5, [0, 1])

    def test_long_numbers(self):
        claims = [(LONG_NUMBER, (1, 1), (1, 1), 0), (LONG_NUMBER - 1, (1, 1), (1, 1), 0)]
        self.told(claims, 4, [LONG_NUMBER - 1, LONG_NUMBER])

    def test_weights_and_speeds_at_their_bounds(self):
        claims = [
            (0, (0, 1), (0, 1), 0), (1, (MOST_TOP, 1), (0, 12), 0), (2, (0, 12), (MOST_TOP, 1), 0),
            (3, (0, 1), (MOST_TOP, 11), 0), (4, (1, 12), (MOST_TOP, 11), 0),
        ]
        self.told(claims, 0, [1, 4, 0, 2, 3])
        self.told(claims, MOST_TURN, [2, 4, 3, 1, 0])

    def test_many_near_and_far(self):
        source = random.Random(31)
        for many in (2, 3, 7, 40):
            for again in range(20):
                for claims in (some_claims(source, many), far_claims(source, many)):
                    for turn in (latest_coming(claims), latest_coming(claims) + 5, MOST_TURN):
                        if turn <= MOST_TURN:
                            self.assertEqual(order_at(claims, turn), known_order(claims, turn))

    def test_refused_of_any_thing_that_is_no_turn(self):
        for claims in ([], [SLOW], [SLOW, FAST, MIDDLE]):
            for thing in NO_TURNS:
                with self.subTest(claims=claims, thing=thing):
                    self.refused(NoTurn, "turn", thing, lambda: order_at(claims, thing))

    def test_refused_where_some_claim_came_later(self):
        claims = [SLOW, (5, (1, 1), (1, 1), 8), (6, (1, 1), (1, 1), 3)]
        for listed in itertools.permutations(claims):
            for turn in (0, 3, 7):
                self.refused(NoTurn, "turn", turn, lambda: order_at(list(listed), turn))
            self.assertEqual(len(order_at(list(listed), 8)), 3)


class TestRankAt(OrdersCase):
    def test_how_many_are_ahead(self):
        claims = [SLOW, FAST, MIDDLE]
        self.assertEqual([rank_at(claims, number, 0) for number in (0, 1, 2)], [0, 2, 1])
        self.assertEqual([rank_at(claims, number, 5) for number in (0, 1, 2)], [2, 1, 0])
        self.assertEqual([rank_at(claims, number, MOST_TURN) for number in (0, 1, 2)], [2, 0, 1])

    def test_one_claim(self):
        self.assertEqual(rank_at([(LONG_NUMBER, (1, 1), (1, 1), 4)], LONG_NUMBER, 4), 0)

    def test_forty_claims(self):
        claims = far_claims(random.Random(32), 40)
        order = known_order(claims, MOST_TURN)
        for claim in claims:
            self.assertEqual(rank_at(claims, claim[0], MOST_TURN), order.index(claim[0]))

    def test_refused_of_any_thing_that_is_no_number_of_a_claim(self):
        for claims in ([], [SLOW], [SLOW, FAST, MIDDLE]):
            for thing in NO_NUMBERS:
                with self.subTest(claims=claims, thing=thing):
                    self.refused(NoPiece, "number", thing, lambda: rank_at(claims, thing, 3))

    def test_the_turn_is_refused_first(self):
        for thing, turn in itertools.product(NO_NUMBERS + [0], NO_TURNS):
            self.refused(NoTurn, "turn", turn, lambda: rank_at([SLOW, FAST], thing, turn))
        self.refused(NoTurn, "turn", 7, lambda: rank_at([SLOW, (1, (1, 1), (1, 1), 8)], 9, 7))
        self.refused(NoTurn, "turn", 7, lambda: rank_at([SLOW, (1, (1, 1), (1, 1), 8)], 0, 7))


class TestChanges(OrdersCase):
    def told(self, claims, first, last, rows):
        for listed in itertools.permutations(claims):
            with self.subTest(claims=listed, first=first, last=last):
                self.a_list(changes(list(listed), first, last), rows)

    def test_ordinary_ones(self):
        claims = [SLOW, FAST, MIDDLE]
        rows = [(3, 2, 0), (5, 1, 0), (6, 1, 2)]
        self.told(claims, 0, 10, rows)
        self.told(claims, 0, MOST_TURN, rows)
        self.told(claims, 0, 6, rows)

    def test_behind_the_first_turn_up_to_the_last_one(self):
        claims = [SLOW, FAST, MIDDLE]
        self.told(claims, 2, 3, [(3, 2, 0)])
        self.told(claims, 3, 4, [])
        self.told(claims, 3, 5, [(5, 1, 0)])
        self.told(claims, 4, 6, [(5, 1, 0), (6, 1, 2)])
        self.told(claims, 6, MOST_TURN, [])

    def test_a_first_turn_equal_to_the_last_one(self):
        for turn in (0, 3, 5, MOST_TURN):
            self.told([SLOW, FAST, MIDDLE], turn, turn, [])
            self.told([], turn, turn, [])

    def test_no_claims_and_one(self):
        self.told([], 0, MOST_TURN, [])
        self.told([SLOW], 0, MOST_TURN, [])

    def test_several_at_one_turn_rise(self):
        claims = [(5, (8, 1), (0, 1), 0), (10, (8, 1), (0, 1), 0), (2, (0, 1), (4, 1), 0), (1, (0, 1), (4, 1), 0)]
        self.told(claims, 0, 9, [(2, 1, 5), (2, 1, 10), (2, 2, 5), (2, 2, 10)])

    def test_at_just_the_last_turn_of_all(self):
        claims = [(1, (1, 1), (0, 1), MOST_TURN - 1), (0, (0, 1), (1, 1), MOST_TURN - 1)]
        self.told(claims, MOST_TURN - 1, MOST_TURN, [(MOST_TURN, 0, 1)])
        self.told(claims, MOST_TURN, MOST_TURN, [])

    def test_passings_beyond_the_last_turn_are_none(self):
        claims = [(0, (1, 1), (0, 1), MOST_TURN - 1), (1, (0, 1), (1, 1), MOST_TURN - 1)]
        self.told(claims, MOST_TURN - 1, MOST_TURN, [])

    def test_turn_by_turn(self):
        source = random.Random(33)
        found = 0
        for again in range(60):
            claims = some_claims(source, source.randint(2, 6))
            first = latest_coming(claims) + source.randint(0, 3)
            last = first + source.randint(0, 25)
            rows = walked_changes(claims, first, last)
            self.assertEqual(changes(claims, first, last), rows)
            found += len(rows)
        self.assertGreater(found, 60)

    def test_ranks_grow_and_fall_by_them(self):
        source = random.Random(35)
        for again in range(20):
            for claims in (some_claims(source, 12), far_claims(source, 40)):
                first = latest_coming(claims)
                last = min(MOST_TURN, first + 40) if again % 2 else MOST_TURN
                rows = changes(claims, first, last)
                for claim in claims:
                    grown = sum(row[2] == claim[0] for row in rows) - sum(row[1] == claim[0] for row in rows)
                    before, behind = [known_order(claims, turn).index(claim[0]) for turn in (first, last)]
                    self.assertEqual(behind - before, grown)
                    self.assertEqual(rank_at(claims, claim[0], last) - rank_at(claims, claim[0], first), grown)

    def test_one_stretch_and_the_next_are_both_together(self):
        source = random.Random(36)
        for again in range(20):
            claims = some_claims(source, 10)
            first = latest_coming(claims)
            whole = changes(claims, first, first + 40)
            self.assertEqual(changes(claims, first, first + 7) + changes(claims, first + 7, first + 40), whole)

    def test_the_first_turn_is_refused_first(self):
        for thing, last in itertools.product(NO_TURNS, NO_TURNS + [5]):
            self.refused(NoTurn, "turn", thing, lambda: changes([SLOW, FAST], thing, last))
        late = [SLOW, (1, (1, 1), (1, 1), 8)]
        for last in (9, 3, 10 ** 99, None):
            self.refused(NoTurn, "turn", 7, lambda: changes(late, 7, last))

    def test_then_the_last_one_is_refused(self):
        for claims in ([], [SLOW], [SLOW, FAST]):
            for thing in NO_TURNS:
                self.refused(NoTurn, "turn", thing, lambda: changes(claims, 0, thing))
            for first, last in ((1, 0), (7, 6), (MOST_TURN, MOST_TURN - 1), (MOST_TURN, 0)):
                self.refused(NoTurn, "turn", last, lambda: changes(claims, first, last))


class TestNextChange(OrdersCase):
    def told(self, claims, turn, answer):
        for listed in itertools.permutations(claims):
            with self.subTest(claims=listed, turn=turn):
                told = next_change(list(listed), turn)
                self.assertEqual(told, answer)
                self.assertIs(type(told), type(answer))
                if told is not None:
                    self.assertIs(type(told[1]), list)

    def test_ordinary_ones(self):
        claims = [SLOW, FAST, MIDDLE]
        for turn, answer in ((0, (3, [(2, 0)])), (2, (3, [(2, 0)])), (3, (5, [(1, 0)])), (4, (5, [(1, 0)])),
                             (5, (6, [(1, 2)])), (6, None), (MOST_TURN, None)):
            self.told(claims, turn, answer)

    def test_no_claims_and_one(self):
        for turn in (0, MOST_TURN):
            self.told([], turn, None)
            self.told([SLOW], turn, None)

    def test_several_at_one_turn_rise(self):
        claims = [(5, (8, 1), (0, 1), 0), (10, (8, 1), (0, 1), 0), (2, (0, 1), (4, 1), 0), (1, (0, 1), (4, 1), 0)]
        self.told(claims, 0, (2, [(1, 5), (1, 10), (2, 5), (2, 10)]))
        self.told(claims, 1, (2, [(1, 5), (1, 10), (2, 5), (2, 10)]))
        self.told(claims, 2, None)

    def test_later_ones_are_not_told(self):
        claims = [(0, (8, 1), (0, 1), 0), (1, (9, 1), (0, 1), 0), (2, (0, 1), (4, 1), 0)]
        self.told(claims, 0, (3, [(2, 0), (2, 1)]))
        claims = [(0, (8, 1), (0, 1), 0), (1, (12, 1), (0, 1), 0), (2, (0, 1), (4, 1), 0)]
        self.told(claims, 0, (3, [(2, 0)]))
        self.told(claims, 3, (4, [(2, 1)]))

    def test_far_beyond_the_last_turn(self):
        early, late = (0, (MOST_TOP, 1), (MOST_TOP - 1, 1), 0), (1, (0, 1), (MOST_TOP, 1), MOST_TURN)
        turn = MOST_TURN + MOST_TOP + MOST_TURN * (MOST_TOP - 1) + 1
        self.told([early, late], MOST_TURN, (turn, [(1, 0)]))

    def test_all_of_them_one_by_one(self):
        source = random.Random(37)
        for again in range(15):
            claims = some_claims(source, 8)
            turn = latest_coming(claims)
            known = changes(claims, turn, MOST_TURN)
            found = []
            answer = next_change(claims, turn)
            while answer is not None:
                self.assertGreater(answer[0], turn)
                turn = answer[0]
                found += [(turn, passes, passed) for passes, passed in answer[1]]
                answer = next_change(claims, turn)
            self.assertEqual(found, known)


class TestLastChange(OrdersCase):
    def test_ordinary_ones(self):
        claims = [SLOW, FAST, MIDDLE]
        for turn, answer in ((0, 6), (3, 6), (5, 6), (6, None), (7, None), (MOST_TURN, None)):
            self.assertEqual(last_change(claims, turn), answer)

    def test_no_claims_and_one(self):
        for turn in (0, MOST_TURN):
            self.assertIsNone(last_change([], turn))
            self.assertIsNone(last_change([SLOW], turn))

    def test_far_beyond_the_last_turn(self):
        early, late = (0, (MOST_TOP, 1), (MOST_TOP - 1, 1), 0), (1, (0, 1), (MOST_TOP, 1), MOST_TURN)
        near = (2, (1, 1), (0, 1), MOST_TURN)
        turn = MOST_TURN + MOST_TOP + MOST_TURN * (MOST_TOP - 1) + 1
        self.assertEqual(last_change([late, near, early], MOST_TURN), turn)
        self.assertEqual(next_change([late, near, early], MOST_TURN), (MOST_TURN + 1, [(1, 2)]))

    def test_it_is_the_last_one(self):
        source = random.Random(38)
        for again in range(20):
            for claims in (some_claims(source, 9), far_claims(source, 9)):
                turn = latest_coming(claims)
                last = last_change(claims, turn)
                if last is None:
                    self.assertEqual(known_order(claims, turn), known_order(claims, 10 ** 40))
                else:
                    self.assertNotEqual(known_order(claims, last - 1), known_order(claims, last))
                    self.assertEqual(known_order(claims, last), known_order(claims, 10 ** 40))


class TestBothChangesRefused(OrdersCase):
    def test_of_any_thing_that_is_no_turn(self):
        for asked, thing in itertools.product((next_change, last_change), NO_TURNS):
            for claims in ([], [SLOW], [SLOW, FAST]):
                with self.subTest(asked=asked, thing=thing, claims=claims):
                    self.refused(NoTurn, "turn", thing, lambda: asked(claims, thing))

    def test_where_some_claim_came_later(self):
        for asked in (next_change, last_change):
            for turn in (0, 7):
                self.refused(NoTurn, "turn", turn, lambda: asked([SLOW, (1, (1, 1), (1, 1), 8)], turn))
            self.assertIsNone(asked([SLOW, (1, (1, 1), (0, 1), 8)], 8))


class TestForEver(OrdersCase):
    def test_no_claims_and_one(self):
        self.a_list(for_ever([]), [])
        self.a_list(for_ever([(7, (0, 1), (0, 1), MOST_TURN)]), [7])

    def test_ordinary_ones(self):
        for listed in itertools.permutations([SLOW, FAST, MIDDLE]):
            self.a_list(for_ever(list(listed)), [1, 2, 0])

    def test_equal_speeds(self):
        claims = [(0, (5, 1), (1, 2), 0), (1, (7, 1), (2, 4), 3), (2, (13, 2), (6, 12), 3), (3, (13, 2), (1, 2), 3)]
        self.a_list(for_ever(claims), [1, 0, 2, 3])

    def test_a_last_change_far_beyond_the_last_turn(self):
        early, late = (0, (MOST_TOP, 1), (MOST_TOP - 1, 1), 0), (1, (0, 1), (MOST_TOP, 1), MOST_TURN)
        self.assertEqual(order_at([early, late], MOST_TURN), [0, 1])
        self.a_list(for_ever([early, late]), [1, 0])

    def test_where_none_comes(self):
        claims = [(0, (1, 1), (1, 1), 0), (1, (9, 1), (1, 1), 5), (2, (6, 1), (1, 1), 5)]
        self.a_list(for_ever(claims), [1, 0, 2])

    def test_many_near_and_far(self):
        source = random.Random(34)
        for many in (2, 3, 7, 40):
            for again in range(5):
                for claims in (some_claims(source, many), far_claims(source, many)):
                    self.assertEqual(for_ever(claims), known_order(claims, 10 ** 40))


class TestNothingIsChanged(OrdersCase):
    def asked(self, claims):
        return [
            order_at(claims, 9), rank_at(claims, 1, 9), changes(claims, 0, 9), next_change(claims, 0),
            last_change(claims, 0), for_ever(claims),
        ]

    def test_what_is_handed_in_stays(self):
        for claims in ([SLOW, FAST, MIDDLE], [FAST, (4, (6, 4), (9, 6), 0), SLOW]):
            before = copy.deepcopy(claims)
            answers = self.asked(claims)
            self.assertEqual(claims, before)
            self.assertEqual(self.asked(before), answers)

    def test_what_is_told_is_the_askers_own(self):
        claims = [SLOW, FAST, MIDDLE]
        answers = self.asked(claims)
        known = copy.deepcopy(answers)
        for place in (0, 2, 5):
            answers[place].clear()
        answers[3][1].append("more")
        self.assertEqual(self.asked(claims), known)
        self.assertEqual(claims, [SLOW, FAST, MIDDLE])

    def test_what_is_told_is_no_list_that_was_handed_in(self):
        claims = []
        for answer in (order_at(claims, 0), changes(claims, 0, 0), for_ever(claims)):
            self.assertIsNot(answer, claims)
            answer.append(1)
        self.assertEqual(claims, [])

    def test_what_is_done_to_what_was_handed_in_changes_nothing(self):
        claims = [SLOW, FAST, MIDDLE]
        answers = self.asked(claims)
        known = copy.deepcopy(answers)
        claims.clear()
        self.assertEqual(answers, known)

    def test_a_refusal_changes_nothing(self):
        claims = [SLOW, FAST, MIDDLE]
        known = self.asked(claims)
        thing = [[1], {2: 3}]
        for ask in (lambda: order_at(claims, thing), lambda: rank_at(claims, thing, 0),
                    lambda: changes(claims, thing, 1), lambda: changes(claims, 0, thing),
                    lambda: next_change(claims, thing), lambda: last_change(claims, thing)):
            with self.assertRaises((NoTurn, NoPiece)):
                ask()
        self.assertEqual(thing, [[1], {2: 3}])
        self.assertEqual(self.asked(claims), known)


if __name__ == "__main__":
    unittest.main()
