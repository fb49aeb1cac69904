"""A house: points 2, 4, 5, 6, 7 and 91 to 97, beside the plain reckoning of plain.py."""

import copy
import inspect
import pathlib
import random
import sys
import unittest

from greywait.errors import NoEnd, NoHands, NoPiece, NoSort, NoSorts, NoTurn, NoWeight, Over, TooMany, WaitError
from greywait.house import House
from greywait.verdicts import Granted, LateOne, Verdict

sys.path.insert(0, str(pathlib.Path(__file__).resolve().parent))

from plain import PlainHouse, Refused

SLOW = ("slow", (5, 1), (1, 2), 2, 1)
QUICK = ("quick", (1, 1), (3, 2), 1, 2)
LONG = ("long", (2, 1), (1, 3), 4, 3)
SORTS = [SLOW, QUICK, LONG]
EIGHT = [("abcdefgh"[:place + 1], (place, 1 + place), (8 - place, 3), 1 + place % 4, 1 + place % 3) for place in range(8)]

FIELDS = {
    "NoSort": "name", "NoHands": "hands", "NoTurn": "turn", "NoPiece": "number", "Over": "number", "NoEnd": "number",
}
THINGS = [
    -1, 0, 1, 2, 3, 6, 7, 40, 100, 101, 400, 401, 402, 1000, 10 ** 15, 10 ** 99, -10 ** 99, True, False, None, "", "0",
    "slow", "Slow", "slow ", "slo", "quick", "abcdefghi", [], [0], ["slow"], (), (0,), ("slow",), (1, 2), (6, 4),
    (1, 13), (1, 0), (-1, 2), (1000001, 1), (1000000, 12), (True, 1), (1, True), ("1", "2"), {}, {0: "done"},
    {"slow": 1}, [[1], {}], SLOW, [SLOW],
]
TELLS = ("now", "waiting", "held", "claims_now", "chores_now", "told_now", "worst_run", "rows_done")


def outcome(deed):
    try:
        answer = deed()
    except WaitError as refusal:
        kind = type(refusal).__name__
        return ("refused", kind) + ((getattr(refusal, FIELDS[kind]),) if kind in FIELDS else ())
    except Refused as refusal:
        return ("refused",) + refusal.told
    return ("told", answer.told() if isinstance(answer, Verdict) else answer)


def all_told(house, many):
    """All that a house tells, of so many pieces."""
    told = [(name, getattr(house, name)()) for name in TELLS]
    return told + [house.state(number) for number in range(many)]


class Both:
    """A house and the plain one, to which the same is done; they must answer alike, and tell alike behind it."""

    def __init__(self, case, sorts, hands):
        self.case = case
        self.house = House(sorts, hands)
        self.plain = PlainHouse(sorts, hands)

    def same(self, answer, known):
        # What is written tells truths from numbers, and tuples from lists, too.
        self.case.assertEqual(answer, known)
        self.case.assertEqual(repr(answer), repr(known))

    def check(self):
        many = len(self.plain.pieces)
        self.same(all_told(self.house, many), all_told(self.plain, many))
        self.same(outcome(lambda: self.house.state(many)), ("refused", "NoPiece", many))

    def do(self, name, *things):
        before = copy.deepcopy(things)
        answer = outcome(lambda: getattr(self.house, name)(*things))
        self.same(answer, outcome(lambda: getattr(self.plain, name)(*before)))
        self.same(things, before)
        self.check()
        return answer[-1] if answer[0] == "told" else answer

    def to_the_end(self):
        while self.plain.words("waiting", "held"):
            self.do("pass_turn")


class HouseCase(unittest.TestCase):
    def same(self, answer, known):
        self.assertEqual(answer, known)
        self.assertEqual(repr(answer), repr(known))

    def refused(self, kind, field, deed):
        """Refused with just this class, and the very thing as its field."""
        with self.assertRaises(kind) as caught:
            deed()
        self.assertIs(type(caught.exception), kind)
        if kind.__name__ in FIELDS:
            self.assertIs(getattr(caught.exception, FIELDS[kind.__name__]), field)

    def refused_alike(self, house, many, kind, field, deed):
        before = all_told(house, many)
        self.refused(kind, field, deed)
        self.same(all_told(house, many), before)


class TestInterface(HouseCase):
    def test_names_of_arguments(self):
        known = {
            "come": "(self, sort)", "hold": "(self, sort, turn)", "change": "(self, number, sort)",
            "change_speed": "(self, sort, speed)", "fewer": "(self, hands)", "tell": "(self, number)",
            "call_off": "(self, number)", "pass_turn": "(self, ends=None, more=0)", "pass_turns": "(self, many)",
            "now": "(self)", "waiting": "(self)", "held": "(self)", "claims_now": "(self)", "chores_now": "(self)",
            "told_now": "(self)", "worst_run": "(self)", "rows_done": "(self)", "state": "(self, number)",
            "comers_until": "(self, number)",
        }
        self.assertEqual(str(inspect.signature(House)), "(sorts, hands)")
        for name, signature in known.items():
            self.assertEqual(str(inspect.signature(getattr(House, name))), signature, name)

    def test_by_keywords(self):
        house = House(sorts=SORTS, hands=1)
        house.come(sort="slow")
        house.hold(sort="slow", turn=9)
        house.change(number=0, sort="slow")
        house.change_speed(sort="slow", speed=(1, 2))
        house.fewer(hands=1)
        house.tell(number=0)
        self.same(house.pass_turn(ends={0: "done"}, more=1), (0, [0]))
        self.same(house.pass_turns(many=1), [(1, [])])
        house.call_off(number=1)
        self.same(house.state(number=1), ("called off", "slow", 9, 1, 0, []))

    def test_kinds_of_verdicts(self):
        house = House(SORTS, 1)
        self.assertIs(type(house.come("slow")), Granted)
        self.assertIs(type(house.come("quick")), Granted)
        self.assertIs(type(house.come("slow")), LateOne)
        self.assertIs(type(house.hold("slow", 9)), Granted)
        self.assertIs(type(house.change(0, "slow")), Granted)
        self.assertIs(type(house.change_speed("slow", (1, 2))), Granted)
        self.assertIs(type(house.fewer(1)), Granted)
        self.assertIsNone(house.call_off(0))


class TestMade(HouseCase):
    def test_at_first(self):
        for sorts in ([SLOW], SORTS, EIGHT):
            for hands in range(1, 7):
                house = House(sorts, hands)
                self.same(
                    all_told(house, 0),
                    [("now", 0), ("waiting", []), ("held", []), ("claims_now", []), ("chores_now", []),
                     ("told_now", {}), ("worst_run", []), ("rows_done", [])],
                )

    def test_no_sorts(self):
        nine = EIGHT + [("i", (1, 1), (1, 1), 1, 1)]
        wrong = [
            [("slow", (5, 1), (1, 2), 5, 1)], [("slow", (5, 1), (1, 2), 1, 0)], [("slow", (5, 13), (1, 2), 1, 1)],
            [("Slow", (5, 1), (1, 2), 1, 1)], [list(SLOW)], tuple(SORTS), [SLOW, SLOW], nine, [SLOW, None],
        ]
        for thing in wrong + [thing for thing in THINGS if thing != [SLOW]]:
            # What hands are plays no part then.
            for hands in (1, 6, 0, 7, None, True, "1", [], {}):
                with self.subTest(thing=thing, hands=hands):
                    self.refused(NoSorts, None, lambda: House(thing, hands))

    def test_no_hands(self):
        for thing in [0, -1, 7, 8] + [thing for thing in THINGS if type(thing) is not int or not 1 <= thing <= 6]:
            with self.subTest(thing=thing):
                self.refused(NoHands, thing, lambda: House(SORTS, thing))

    def test_sorts_that_are_handed_in_are_its_own(self):
        sorts = [SLOW, QUICK]
        house = House(sorts, 1)
        sorts[0] = LONG
        sorts.pop()
        self.same(house.come("slow").told(), ("granted", 0))
        self.same(house.come("quick").told(), ("granted", 1))
        self.refused(NoSort, "long", lambda: house.come("long"))
        self.same(sorts, [LONG])

    def test_weights_in_lowest_terms(self):
        house = House([("slow", (10, 2), (3, 6), 2, 1)], 1)
        house.come("slow")
        self.same(house.claims_now(), [(0, (5, 1), (1, 2), 0)])
        house.change_speed("slow", (6, 4))
        self.same(house.claims_now(), [(0, (5, 1), (3, 2), 0)])


class TestCome(HouseCase):
    def test_who_comes_is_told_and_who_makes_another_late_does_not_come(self):
        house = House(SORTS, 1)
        self.same(house.come("slow").told(), ("granted", 0))
        self.same(house.come("quick").told(), ("granted", 1))
        run = [(0, [0]), (1, [0]), (2, [2]), (3, [2]), (4, [1]), (5, [1])]
        self.same(house.come("slow").told(), ("late", 1, 3, 5, run))
        self.same(house.waiting(), [0, 1])
        self.same(house.held(), [])
        self.same(house.claims_now(), [(0, (5, 1), (1, 2), 0), (1, (1, 1), (3, 2), 0)])
        self.same(house.chores_now(), [((0, (5, 1), (1, 2), 0), 2), ((1, (1, 1), (3, 2), 0), 2)])
        self.same(house.told_now(), {0: 1, 1: 3})
        self.same(house.worst_run(), [(0, [0]), (1, [0]), (2, [1]), (3, [1])])
        self.same(house.state(0), ("waiting", "slow", 0, 1, 0, [1]))
        self.same(house.state(1), ("waiting", "quick", 0, 2, 0, [3]))
        self.refused(NoPiece, 2, lambda: house.state(2))

    def test_the_next_number_is_not_used_up(self):
        house = House(SORTS, 1)
        house.come("slow")
        house.come("quick")
        house.come("slow")
        self.same(house.hold("slow", 4).told(), ("granted", 2))
        self.same(house.held(), [(2, "slow", 4)])

    def test_places_of_one_sort_and_one_turn(self):
        both = Both(self, SORTS, 1)
        for sort, turn in (("long", 3), ("slow", 2), ("quick", 2), ("slow", 2), ("slow", 3), ("slow", 2)):
            both.do("hold", sort, turn)
        both.do("pass_turns", 2)
        self.same(both.do("come", "slow"), ("granted", 1))
        self.same(both.do("come", "slow"), ("granted", 3))
        self.same(both.do("come", "quick"), ("granted", 2))
        self.same(both.do("come", "slow"), ("granted", 5))
        self.same(both.house.held(), [(0, "long", 3), (4, "slow", 3)])
        both.do("come", "slow")
        both.do("pass_turn")
        self.same(both.do("come", "long"), ("granted", 0))
        self.same(both.do("come", "slow"), ("granted", 4))
        both.to_the_end()

    def test_a_place_is_not_taken_by_another_sort_or_at_another_turn(self):
        both = Both(self, SORTS, 6)
        both.do("hold", "slow", 1)
        self.same(both.do("come", "slow"), ("granted", 1))
        both.do("pass_turn")
        self.same(both.do("come", "quick"), ("granted", 2))
        self.same(both.house.held(), [(0, "slow", 1)])
        both.do("pass_turn")
        self.same(both.do("come", "slow"), ("granted", 3))
        self.same(both.house.state(0), ("missed", "slow", 1, 1, 0, []))

    def test_a_place_is_taken_without_asking(self):
        # Whatever was told holds with the place already, so who takes it makes nobody late.
        both = Both(self, SORTS, 1)
        both.do("hold", "slow", 0)
        both.do("come", "quick")
        self.same(both.do("come", "slow"), ("granted", 0))
        self.same(both.do("come", "slow")[:4], ("late", 1, 3, 5))
        both.to_the_end()

    def test_a_place_at_the_houses_turn_and_400_behind_it(self):
        for begin in (0, 1, 7):
            house = House(SORTS, 2)
            house.pass_turns(begin)
            self.same(house.hold("slow", begin).told(), ("granted", 0))
            self.same(house.hold("slow", begin + 400).told(), ("granted", 1))
            for turn in (begin - 1, begin + 401, -1, True, None, str(begin), [begin], 10 ** 99):
                with self.subTest(begin=begin, turn=turn):
                    self.refused_alike(house, 2, NoTurn, turn, lambda: house.hold("slow", turn))
            self.same(house.held(), [(0, "slow", begin), (1, "slow", begin + 400)])
            rows = house.worst_run()
            self.same((len(rows), rows[0], rows[2], rows[-1]), (402, (begin, [0]), (begin + 2, []), (begin + 401, [1])))

    def test_a_place_400_turns_behind_is_taken(self):
        both = Both(self, [QUICK], 1)
        both.do("hold", "quick", 400)
        for step in range(4):
            both.house.pass_turns(100)
            both.plain.pass_turns(100)
        self.same(both.do("come", "quick"), ("granted", 0))
        self.same(both.house.state(0), ("waiting", "quick", 400, 2, 0, [401]))

    def test_forty_pieces_and_places_together(self):
        house = House(SORTS, 6)
        for number in range(20):
            self.same(house.come("slow").told(), ("granted", number))
        for number in range(20, 40):
            self.same(house.hold("quick", 300 + number).told(), ("granted", number))
        self.refused_alike(house, 40, TooMany, None, lambda: house.come("slow"))
        self.refused_alike(house, 40, TooMany, None, lambda: house.hold("slow", 400))
        house.call_off(39)
        self.same(house.hold("quick", 400).told(), ("granted", 40))
        self.refused_alike(house, 41, TooMany, None, lambda: house.hold("slow", 400))
        house.call_off(0)
        self.same(house.hold("slow", 400).told(), ("granted", 41))

    def test_a_place_is_taken_although_forty_wait_and_are_held(self):
        house = House(SORTS, 6)
        house.hold("quick", 0)
        for number in range(1, 40):
            self.same(house.come("slow" if number < 20 else "long").granted(), True)
        self.refused_alike(house, 40, TooMany, None, lambda: house.come("slow"))
        self.same(house.come("quick").told(), ("granted", 0))
        self.same(len(house.waiting()), 40)
        self.refused_alike(house, 40, TooMany, None, lambda: house.come("quick"))
        self.refused_alike(house, 40, TooMany, None, lambda: house.hold("quick", 0))

    def test_those_who_are_over_or_missed_take_no_room(self):
        house = House([QUICK], 6)
        for number in range(40):
            house.hold("quick", 0)
        self.same(house.come("quick").told(), ("granted", 0))
        house.pass_turn({0: "done"})
        self.same(house.held(), [])
        for number in range(40, 80):
            self.same(house.hold("quick", 1).told(), ("granted", number))
        self.refused(TooMany, None, lambda: house.hold("quick", 1))

    def test_refusals_in_their_order(self):
        house = House(SORTS, 6)
        for number in range(40):
            house.hold("slow", 5)
        house.pass_turn()
        for thing in THINGS:
            if thing not in ("slow", "quick"):
                with self.subTest(thing=thing):
                    self.refused_alike(house, 40, NoSort, thing, lambda: house.come(thing))
                    self.refused_alike(house, 40, NoSort, thing, lambda: house.hold(thing, 0))
                    self.refused_alike(house, 40, NoSort, thing, lambda: house.hold(thing, 1))
            if type(thing) is not int or not 1 <= thing <= 401:
                with self.subTest(thing=thing):
                    self.refused_alike(house, 40, NoTurn, thing, lambda: house.hold("slow", thing))
        self.refused_alike(house, 40, TooMany, None, lambda: house.come("slow"))
        self.refused_alike(house, 40, TooMany, None, lambda: house.hold("slow", 401))

    def test_equal_weights(self):
        sorts = [("one", (1, 2), (1, 3), 2, 1), ("other", (2, 4), (4, 12), 2, 1)]
        both = Both(self, sorts, 1)
        both.do("hold", "other", 1)
        for sort in ("one", "other", "one"):
            both.do("come", sort)
        self.same(both.house.waiting(), [1, 2, 3])
        both.do("pass_turn")
        both.do("come", "one")
        both.do("come", "other")
        self.same(both.house.waiting(), [1, 2, 3, 0, 4])
        both.to_the_end()
        self.same([row[1] for row in both.house.rows_done()], [[1], [1], [2], [2], [3], [3], [0], [0], [4], [4]])


class TestAsked(HouseCase):
    def test_another_sort(self):
        house = House(SORTS, 1)
        house.come("slow")
        house.come("quick")
        house.come("long")
        self.same(house.told_now(), {0: 1, 1: 3, 2: 15})
        run = [(0, [0]), (1, [0]), (2, [2]), (3, [2]), (4, [1]), (5, [1])] + [(turn, [2]) for turn in range(6, 16)]
        self.same(house.change(2, "slow").told(), ("late", 1, 3, 5, run))
        self.same(house.claims_now()[2], (2, (2, 1), (1, 3), 0))
        self.same(house.change(1, "long").told(), ("granted", None))

    def test_another_sort_keeps_coming_span_tries_and_what_was_worked(self):
        both = Both(self, SORTS, 1)
        both.do("pass_turns", 3)
        both.do("come", "long")
        both.do("pass_turns", 5)
        self.same(both.house.state(0), ("waiting", "long", 3, 2, 1, [14]))
        self.same(both.do("change", 0, "quick"), ("granted", None))
        self.same(both.house.state(0), ("waiting", "quick", 3, 2, 1, [14]))
        self.same(both.house.claims_now(), [(0, (1, 1), (3, 2), 3)])
        self.same(both.house.chores_now(), [((0, (1, 1), (3, 2), 3), 7)])
        both.to_the_end()
        self.same(both.house.state(0), ("given up", "quick", 3, 0, 0, [14]))

    def test_another_sort_for_itself_that_would_make_it_late(self):
        house = House([("high", (9, 1), (0, 1), 1, 1), ("low", (1, 1), (0, 1), 2, 1)], 1)
        house.come("high")
        house.come("low")
        run = [(0, [0]), (1, [1]), (2, [1])]
        self.same(house.worst_run(), run)
        self.same(house.change(0, "low").told(), ("granted", None))
        self.same(house.change(1, "high").told(), ("late", 0, 0, 2, [(0, [1]), (1, [1]), (2, [0])]))
        self.same(house.state(0), ("waiting", "low", 0, 1, 0, [0]))
        self.same(house.state(1), ("waiting", "low", 0, 1, 0, [2]))

    def test_another_sort_that_makes_the_piece_itself_late(self):
        house = House([("high", (9, 1), (0, 1), 1, 1), ("mid", (5, 1), (0, 1), 2, 1), ("low", (1, 1), (0, 1), 1, 1)], 1)
        house.come("high")
        house.come("mid")
        self.same(house.change(0, "low").told(), ("late", 0, 0, 2, [(0, [1]), (1, [1]), (2, [0])]))
        self.same(house.state(0), ("waiting", "high", 0, 1, 0, [0]))

    def test_refusals_of_another_sort(self):
        house = House(SORTS, 6)
        house.come("slow")
        house.hold("slow", 3)
        house.come("quick")
        house.come("quick")
        house.come("quick")
        house.call_off(2)
        house.pass_turn({3: "done"})
        for sort in ("slow", "nobody", None, [], 1):
            for number in [5, -1, 10 ** 99, True, False, None, "0", "", [], [0], (), (0,), {}, {0: 0}]:
                with self.subTest(number=number, sort=sort):
                    self.refused_alike(house, 5, NoPiece, number, lambda: house.change(number, sort))
            for number in (1, 2, 3):
                self.refused_alike(house, 5, Over, number, lambda: house.change(number, sort))
        for thing in THINGS:
            if thing not in ("slow", "quick"):
                self.refused_alike(house, 5, NoSort, thing, lambda: house.change(0, thing))

    def test_another_speed(self):
        both = Both(self, SORTS, 1)
        both.do("come", "slow")
        both.do("come", "quick")
        both.do("come", "long")
        both.do("hold", "quick", 30)
        self.same(both.do("change_speed", "quick", (5, 1))[:4], ("late", 0, 1, 3))
        self.same(both.house.claims_now()[1], (1, (1, 1), (3, 2), 0))
        self.same(both.do("change_speed", "quick", (6, 4)), ("granted", None))
        self.same(both.do("change_speed", "quick", (10, 4)), ("granted", None))
        self.same(both.house.claims_now()[1], (1, (1, 1), (5, 2), 0))
        self.same(both.house.chores_now()[3], ((3, (1, 1), (5, 2), 30), 2))
        both.do("pass_turns", 4)
        both.do("call_off", 2)
        both.do("come", "quick")
        self.same(both.house.claims_now(), [(4, (1, 1), (5, 2), 4)])
        both.to_the_end()

    def test_refusals_of_another_speed(self):
        house = House(SORTS, 6)
        house.come("slow")
        for thing in THINGS:
            if thing not in ("slow", "quick"):
                for speed in ((1, 1), None, (1, 13), [], "1"):
                    with self.subTest(thing=thing, speed=speed):
                        self.refused_alike(house, 1, NoSort, thing, lambda: house.change_speed(thing, speed))
            if thing not in ((1, 2), (6, 4), (1000000, 12)):
                with self.subTest(thing=thing):
                    self.refused_alike(house, 1, NoWeight, None, lambda: house.change_speed("slow", thing))
        for speed in ((0, 1), (1000000, 1), (1000000, 12), (0, 12)):
            self.same(house.change_speed("quick", speed).told(), ("granted", None))

    def test_fewer_hands(self):
        both = Both(self, SORTS, 3)
        both.do("come", "slow")
        self.same(both.do("fewer", 3), ("granted", None))
        self.same(both.do("fewer", 2), ("granted", None))
        self.same(both.do("fewer", 3), ("refused", "NoHands", 3))
        both.do("come", "slow")
        run = [(0, [0]), (1, [0]), (2, [1]), (3, [1])]
        self.same(both.do("fewer", 1), ("late", 1, 1, 3, run))
        self.same(both.do("pass_turn"), (0, [0, 1]))
        both.do("pass_turn", {0: "done"})
        self.same(both.do("fewer", 1), ("granted", None))
        self.same(both.do("fewer", 2), ("refused", "NoHands", 2))

    def test_refusals_of_fewer_hands(self):
        for hands in range(1, 7):
            house = House(SORTS, hands)
            for thing in [hands + 1] + [thing for thing in THINGS if type(thing) is not int or not 1 <= thing <= hands]:
                with self.subTest(hands=hands, thing=thing):
                    self.refused_alike(house, 0, NoHands, thing, lambda: house.fewer(thing))
            self.same(house.fewer(hands).told(), ("granted", None))
            self.same(house.fewer(1).told(), ("granted", None))

    def test_the_least_number_that_is_late(self):
        house = House([("low", (1, 1), (0, 1), 1, 1), ("high", (2, 1), (0, 1), 1, 1)], 2)
        for number in range(6):
            house.come("low")
        self.same(house.told_now(), {0: 0, 1: 0, 2: 1, 3: 1, 4: 2, 5: 2})
        self.same(house.come("high").told(), (
            "late", 1, 0, 1, [(0, [6, 0]), (1, [1, 2]), (2, [3, 4]), (3, [5])],
        ))
        self.same(house.fewer(1).told(), ("late", 1, 0, 1, [(turn, [turn]) for turn in range(6)]))
        self.same(house.come("low").told(), ("granted", 6))


class TestToldAndCalledOff(HouseCase):
    def test_told_again(self):
        both = Both(self, SORTS, 1)
        both.do("come", "slow")
        both.do("come", "quick")
        self.same(both.do("tell", 1), 3)
        self.same(both.house.state(1), ("waiting", "quick", 0, 2, 0, [3, 3]))
        both.do("pass_turn", {0: "done"})
        self.same(both.house.told_now(), {1: 3})
        self.same(both.do("tell", 1), 2)
        self.same(both.house.state(1), ("waiting", "quick", 0, 2, 0, [3, 3, 2]))
        self.same(both.house.told_now(), {1: 2})
        # Ahead of the telling there was room for this one.
        self.same(both.do("come", "slow")[:4], ("late", 1, 2, 4))

    def test_a_number_that_is_not_told_again_stays(self):
        both = Both(self, SORTS, 1)
        both.do("come", "slow")
        both.do("come", "quick")
        both.do("pass_turn", {0: "done"})
        self.same(both.house.worst_run(), [(1, [1]), (2, [1])])
        self.same(both.house.told_now(), {1: 3})
        both.do("hold", "slow", 1)
        both.to_the_end()

    def test_called_off(self):
        both = Both(self, SORTS, 1)
        both.do("hold", "quick", 5)
        both.do("come", "long")
        both.do("pass_turns", 5)
        self.same(both.do("call_off", 0), None)
        self.same(both.do("call_off", 1), None)
        self.same(both.house.state(0), ("called off", "quick", 5, 2, 0, []))
        self.same(both.house.state(1), ("called off", "long", 0, 2, 1, [13]))
        self.same(both.house.chores_now(), [])
        self.same(both.do("come", "quick"), ("granted", 2))

    def test_refusals(self):
        house = House(SORTS, 6)
        house.come("slow")
        house.hold("slow", 3)
        house.hold("slow", 0)
        house.come("quick")
        house.come("quick")
        house.come("quick")
        house.call_off(4)
        house.come("slow")
        house.call_off(2)
        house.hold("slow", 0)
        house.pass_turn({3: "done"})
        house.pass_turn({5: "failed"})
        words = ["given up", "held", "called off", "done", "called off", "given up", "missed"]
        self.same([house.state(number)[0] for number in range(7)], words)
        for number in [7, -1, 10 ** 99, True, False, None, "0", "", [], [0], (), (0,), {}, {0: 0}]:
            with self.subTest(number=number):
                self.refused_alike(house, 7, NoPiece, number, lambda: house.tell(number))
                self.refused_alike(house, 7, NoPiece, number, lambda: house.call_off(number))
                self.refused_alike(house, 7, NoPiece, number, lambda: house.state(number))
                self.refused_alike(house, 7, NoPiece, number, lambda: house.comers_until(number))
        for number in range(7):
            with self.subTest(number=number):
                self.refused_alike(house, 7, Over, number, lambda: house.tell(number))
                self.refused_alike(house, 7, Over, number, lambda: house.comers_until(number))
                if number != 1:
                    self.refused_alike(house, 7, Over, number, lambda: house.call_off(number))

    def test_in_a_house_without_pieces_nothing_is_a_piece(self):
        house = House(SORTS, 6)
        for number in (0, -1, 1, False, None):
            for deed in (house.tell, house.call_off, house.state, house.comers_until):
                self.refused(NoPiece, number, lambda: deed(number))


class TestTurns(HouseCase):
    def test_rows_and_steps(self):
        both = Both(self, SORTS, 2)
        for sort in ("slow", "quick", "long"):
            both.do("hold", sort, 0)
        for sort in ("slow", "quick", "long"):
            both.do("come", sort)
        self.same(both.do("pass_turn"), (0, [0, 2]))
        self.same(both.house.state(0), ("waiting", "slow", 0, 1, 1, [1]))
        self.same(both.do("pass_turn"), (1, [0, 1]))
        self.same(both.house.state(0), ("given up", "slow", 0, 0, 0, [1]))
        self.same(both.house.state(1), ("waiting", "quick", 0, 1, 0, [2]))
        self.same(both.do("pass_turn", None), (2, [1, 2]))
        self.same(both.do("pass_turn", {}), (3, [2]))
        self.same(both.house.rows_done(), [(0, [0, 2]), (1, [0, 1]), (2, [1, 2]), (3, [2])])
        both.to_the_end()

    def test_ends(self):
        both = Both(self, SORTS, 6)
        for sort in ("long", "long", "long", "long", "slow"):
            both.do("come", sort)
        both.do("pass_turn", {1: "done", 2: "failed"})
        self.same(both.house.state(0), ("waiting", "long", 0, 3, 1, [11]))
        self.same(both.house.state(1), ("done", "long", 0, 3, 0, [11]))
        self.same(both.house.state(2), ("waiting", "long", 0, 2, 0, [11]))
        both.do("pass_turn", {4: "failed"}, 6)
        self.same(both.house.state(4), ("given up", "slow", 0, 0, 0, [1]))
        both.do("pass_turn")
        self.same(both.house.state(0), ("waiting", "long", 0, 3, 3, [11]))

    def test_ends_of_a_try_whose_last_turn_this_is(self):
        both = Both(self, [LONG], 6)
        for step in range(4):
            both.do("come", "long")
        both.do("pass_turns", 3)
        both.do("pass_turn", {0: "failed", 1: "done"})
        self.same(both.house.state(0), ("waiting", "long", 0, 2, 0, [11]))
        self.same(both.house.state(1), ("done", "long", 0, 3, 3, [11]))
        self.same(both.house.state(2), ("waiting", "long", 0, 2, 0, [11]))
        both.do("pass_turns", 7)
        both.do("pass_turn", {2: "done", 3: "failed"})
        self.same(both.house.state(0)[0], "given up")
        self.same(both.house.state(2), ("done", "long", 0, 1, 3, [11]))
        self.same(both.house.state(3), ("given up", "long", 0, 0, 0, [11]))

    def test_helpers_are_there_for_one_turn(self):
        for more in range(7):
            both = Both(self, [LONG], 1)
            for step in range(9):
                both.do("come", "long")
            self.same(both.do("pass_turn", None, more), (0, list(range(1 + more))))
            self.same(both.do("pass_turn"), (1, [0]))

    def test_six_hands_and_six_helpers(self):
        both = Both(self, [LONG], 6)
        for step in range(14):
            both.do("come", "long")
        self.same(both.do("pass_turn", {11: "done"}, 6), (0, list(range(12))))
        self.same(both.do("pass_turn", {12: "done"}, 6), (1, [0, 1, 2, 3, 4, 5, 6, 7, 8, 9, 10, 12]))

    def test_refusals_of_helpers(self):
        house = House(SORTS, 1)
        house.come("slow")
        house.hold("slow", 0)
        for thing in [-1, 7] + [thing for thing in THINGS if type(thing) is not int or not 0 <= thing <= 6]:
            for ends in (None, {}, {0: "done"}, {5: "done"}, {0: "maybe"}):
                with self.subTest(thing=thing, ends=ends):
                    self.refused_alike(house, 2, NoHands, thing, lambda: house.pass_turn(ends, thing))

    def test_refusals_of_ends(self):
        house = House(SORTS, 2)
        house.come("slow")
        house.come("slow")
        house.come("quick")
        house.hold("slow", 0)
        house.hold("slow", 9)
        numbers = [2, 3, 4, 5, -1, 10 ** 99, -10 ** 99, True, False, None, "", "0", (), (0,), ((0,), "1")]
        for number in numbers:
            for end in ("done", "failed", None):
                with self.subTest(number=number, end=end):
                    self.refused_alike(house, 5, NoEnd, number, lambda: house.pass_turn({number: end}))
        for end in (None, True, 0, "", "Done", "done ", "fail", "given up", [], ["done"], ("done",), {}, {0: "done"}):
            with self.subTest(end=end):
                self.refused_alike(house, 5, NoEnd, 1, lambda: house.pass_turn({1: end}))
                self.refused_alike(house, 5, NoEnd, 1, lambda: house.pass_turn({0: "done", 1: end, 9: "done"}))
                self.refused_alike(house, 5, NoEnd, 9, lambda: house.pass_turn({0: "done", 9: "done", 1: end}))
        self.same(house.pass_turn({0: "done", 1: "failed"}), (0, [0, 1]))

    def test_ends_of_those_whom_helpers_reach(self):
        house = House([QUICK], 1)
        for number in range(4):
            house.come("quick")
        self.refused(NoEnd, 3, lambda: house.pass_turn({1: "done", 3: "done"}, 2))
        self.refused(NoEnd, 1, lambda: house.pass_turn({1: "done"}))
        self.same(house.pass_turn({1: "done", 2: "failed"}, 2), (0, [0, 1, 2]))

    def test_places_of_the_turn_are_missed(self):
        both = Both(self, SORTS, 1)
        both.do("hold", "slow", 0)
        both.do("hold", "slow", 1)
        both.do("come", "slow")
        self.same(both.do("pass_turn"), (0, [0]))
        both.do("hold", "quick", 1)
        both.do("hold", "quick", 2)
        self.same(both.do("pass_turn"), (1, [0]))
        self.same(both.house.held(), [(3, "quick", 2)])
        self.same(both.house.state(1), ("missed", "slow", 1, 1, 0, []))
        self.same(both.house.state(2), ("missed", "quick", 1, 2, 0, []))
        self.same(both.do("pass_turns", 2), [(2, []), (3, [])])
        self.same(both.house.chores_now(), [])

    def test_no_turns_and_a_hundred(self):
        both = Both(self, SORTS, 1)
        both.do("come", "long")
        self.same(both.do("pass_turns", 0), [])
        self.same(both.house.now(), 0)
        rows = [(turn, [0]) for turn in range(12)] + [(turn, []) for turn in range(12, 100)]
        self.same(both.do("pass_turns", 100), rows)
        self.same(both.house.rows_done(), rows)
        self.same(both.do("pass_turns", 1), [(100, [])])

    def test_refusals_of_turns(self):
        house = House(SORTS, 1)
        house.come("slow")
        for thing in [-1, 101] + [thing for thing in THINGS if type(thing) is not int or not 0 <= thing <= 100]:
            with self.subTest(thing=thing):
                self.refused_alike(house, 1, NoTurn, thing, lambda: house.pass_turns(thing))

    def test_a_house_in_which_nobody_waits(self):
        both = Both(self, SORTS, 6)
        self.same(both.do("pass_turn", {}, 6), (0, []))
        self.same(both.do("pass_turn", {0: "done"}), ("refused", "NoEnd", 0))
        self.same(both.do("fewer", 1), ("granted", None))
        self.same(both.do("change_speed", "slow", (9, 1)), ("granted", None))
        both.do("hold", "slow", 3)
        self.same(both.do("pass_turns", 2), [(1, []), (2, [])])
        self.same(both.house.worst_run(), [(3, [0]), (4, [0])])
        self.same(both.do("come", "slow"), ("granted", 0))

    def test_late_turns(self):
        house = House(SORTS, 1)
        for step in range(10):
            house.pass_turns(100)
        self.same(house.now(), 1000)
        house.come("long")
        self.same(house.told_now(), {0: 1011})
        self.same(house.hold("slow", 1400).told(), ("granted", 1))
        self.same(house.comers_until(0), (1009, "slow"))


class TestOwn(HouseCase):
    def spoil(self, thing):
        if isinstance(thing, (list, tuple)):
            for part in thing:
                self.spoil(part)
        if isinstance(thing, list):
            thing.append(77)
        if isinstance(thing, dict):
            thing[0] = -5
            thing[77] = 77

    def test_what_is_told_is_the_askers_own(self):
        both = Both(self, SORTS, 1)
        self.spoil(outcome(lambda: both.house.come("slow")))
        both.plain.come("slow")
        both.do("come", "quick")
        both.do("hold", "quick", 9)
        for step in range(3):
            house = both.house
            self.spoil(house.pass_turn())
            both.plain.pass_turn()
            both.check()
            told = [getattr(house, name)() for name in TELLS] + [house.state(number) for number in range(3)]
            told += [outcome(lambda: house.come("slow")), outcome(lambda: house.change_speed("slow", (900, 1)))]
            both.plain.come("slow")
            both.plain.change_speed("slow", (900, 1))
            self.spoil(told)
            both.check()
            self.spoil(house.pass_turns(0))
            both.check()
        self.spoil(both.house.pass_turns(2))
        both.plain.pass_turns(2)
        both.check()

    def test_what_is_told_is_new_each_time(self):
        house = House(SORTS, 1)
        house.come("slow")
        house.hold("quick", 9)
        house.pass_turn()
        for name in TELLS[1:]:
            self.assertIsNot(getattr(house, name)(), getattr(house, name)(), name)
        self.assertIsNot(house.rows_done()[0][1], house.rows_done()[0][1])
        self.assertIsNot(house.state(0)[5], house.state(0)[5])

    def test_verdicts_of_late_ones_are_their_own(self):
        house = House(SORTS, 1)
        house.come("slow")
        house.come("quick")
        one = house.come("slow")
        other = house.come("slow")
        self.assertEqual(one, other)
        self.spoil(one.told())
        self.assertEqual(one, other)
        self.assertIsNot(one.run, other.run)

    def test_ends_stay_as_they_were(self):
        house = House(SORTS, 1)
        house.come("slow")
        ends = {0: "done"}
        house.pass_turn(ends)
        self.same(ends, {0: "done"})
        ends[0] = "failed"
        self.same(house.state(0)[0], "done")
        ends = {0: "done", 7: []}
        self.refused(NoEnd, 0, lambda: house.pass_turn(ends))
        self.same(ends, {0: "done", 7: []})

    def test_two_houses_have_nothing_in_common(self):
        sorts = [SLOW, QUICK, LONG]
        one = House(sorts, 2)
        other = House(sorts, 2)
        before = all_told(other, 0)
        one.come("slow")
        one.hold("quick", 4)
        one.change_speed("quick", (9, 1))
        one.fewer(1)
        one.tell(0)
        one.pass_turns(3)
        self.same(all_told(other, 0), before)
        other.come("quick")
        self.same(other.claims_now(), [(0, (1, 1), (3, 2), 0)])
        other.come("slow")
        self.same(other.pass_turn(), (0, [1, 0]))
        self.same(one.now(), 3)
        self.same(one.rows_done(), [(0, [0]), (1, [0]), (2, [])])


def some_sorts(source, many):
    names = source.sample(["a", "b", "slow", "quick", "grey", "abcdefgh", "z", "no"], many)
    return [
        (name, (source.randint(0, 12), source.randint(1, 12)), (source.randint(0, 6), source.randint(1, 4)),
         source.randint(1, 4), source.randint(1, 3))
        for name in names
    ]


def some_ends(source, plain, more):
    worked = plain.waiting()[:plain.hands + more]
    ends = {number: source.choice(["done", "failed"]) for number in worked if source.random() < 0.3}
    if source.random() < 0.05:
        ends[source.choice([0, len(plain.pieces), True, "0"])] = source.choice(["done", "over"])
    return ends


def some_deed(source, plain):
    """A deed that mostly may be done, by what the plain house tells."""
    sort = source.choice(list(plain.sorts) + ["nobody"] * (source.random() < 0.1))
    number = source.choice((plain.words("waiting") * 8 + list(range(len(plain.pieces) + 1))) or [0])
    here = [place[1] for place in plain.held() if place[2] == plain.turn]
    kind = source.choice([
        "come", "come", "come", "hold", "hold", "change", "speed", "fewer", "tell", "off", "pass", "pass", "pass",
        "pass", "turns",
    ])
    if kind == "come":
        return ("come", source.choice(here) if here else sort)
    if kind == "hold":
        return ("hold", sort, plain.turn + source.choice([0, 1, 2, 3, 5, 9, -1, 401 * (source.random() < 0.1)]))
    if kind == "change":
        return ("change", number, sort)
    if kind == "speed":
        return ("change_speed", sort, (source.randint(0, 6), source.randint(1, 4)))
    if kind == "fewer":
        return ("fewer", source.randint(max(1, plain.hands - 1), plain.hands + (source.random() < 0.1)))
    if kind == "tell":
        return ("tell", number)
    if kind == "off":
        return ("call_off", number)
    if kind == "turns":
        return ("pass_turns", source.choice([0, 1, 2, 3]))
    more = source.choice([0, 0, 0, 1, 6])
    return ("pass_turn", some_ends(source, plain, more), more)


class TestHistories(HouseCase):
    def history(self, source, sorts, hands, deeds):
        both = Both(self, sorts, hands)
        answers = []
        for step in range(deeds):
            deed = some_deed(source, both.plain)
            with self.subTest(step=step, deed=deed):
                answers.append((deed[0], both.do(*deed)))
        both.to_the_end()
        return answers

    def test_small_ones(self):
        source = random.Random(91)
        found = set()
        for step in range(60):
            sorts = some_sorts(source, source.randint(1, 4))
            for name, answer in self.history(source, sorts, source.randint(1, 3), 40):
                if isinstance(answer, tuple) and answer[0] in ("granted", "late", "refused"):
                    found.add((name, answer[1] if answer[0] == "refused" else answer[0]))
        # The histories are such that each of these was seen.
        asked = ("come", "hold", "change", "change_speed", "fewer")
        known = [(name, word) for name in asked for word in ("granted", "late")]
        known += [
            ("come", "NoSort"), ("hold", "NoTurn"), ("change", "NoPiece"), ("change", "Over"), ("tell", "Over"),
            ("call_off", "Over"), ("pass_turn", "NoEnd"), ("fewer", "NoHands"),
        ]
        self.assertEqual(set(known) - found, set())

    def test_of_one_and_of_eight_sorts(self):
        source = random.Random(92)
        for many in (1, 8):
            for hands in (1, 6):
                self.history(source, some_sorts(source, many), hands, 60)

    def test_of_six_hundred_deeds(self):
        source = random.Random(93)
        both = Both(self, some_sorts(source, 8), 6)
        most = 0
        for step in range(600):
            deed = some_deed(source, both.plain)
            if deed[0] == "pass_turns" or (deed[0] == "pass_turn" and source.random() < 0.5):
                deed = ("hold", source.choice(list(both.plain.sorts)), both.plain.turn + source.randint(0, 60))
            answer = outcome(lambda: getattr(both.house, deed[0])(*deed[1:]))
            both.same(answer, outcome(lambda: getattr(both.plain, deed[0])(*deed[1:])))
            most = max(most, len(both.plain.chores_now()))
            if step % 20 == 0:
                both.check()
        both.check()
        self.assertEqual(most, 40)
        for step in range(2):
            both.do("pass_turns", 100)
        self.assertEqual(both.house.chores_now(), [])

    def test_houses_made_and_used_alike_tell_alike(self):
        source = random.Random(94)
        for step in range(10):
            sorts = some_sorts(source, 3)
            plain = PlainHouse(sorts, 2)
            one = House(sorts, 2)
            deeds = []
            for place in range(30):
                deed = some_deed(source, plain)
                deeds.append(deed)
                outcome(lambda: getattr(plain, deed[0])(*deed[1:]))
            other = House(sorts, 2)
            for deed in deeds:
                answer = outcome(lambda: getattr(one, deed[0])(*deed[1:]))
                self.same(outcome(lambda: getattr(other, deed[0])(*deed[1:])), answer)
            many = len(plain.pieces)
            self.same(all_told(other, many), all_told(one, many))
            self.same(all_told(one, many), all_told(one, many))


if __name__ == "__main__":
    unittest.main()
