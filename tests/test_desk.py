"""A desk of lines: points 5, 6, 7, 11, 14 and 101 to 104, beside the plain reckoning of plain.py."""

import inspect
import pathlib
import random
import sys
import unittest

from greywait.desk import Desk
from greywait.errors import (
    NoEnd, NoHands, NoLine, NoPiece, NoSort, NoSorts, NoTurn, Over, TooMany, WaitError,
)

sys.path.insert(0, str(pathlib.Path(__file__).resolve().parent))

from plain import PlainDesk, Refused

HOUSE = "house 1 slow:5:1/2:2:1 quick:1:3/2:1:2 long:2:1/3:4:3"
FIELDS = {
    "NoSort": "name", "NoHands": "hands", "NoTurn": "turn", "NoPiece": "number", "Over": "number", "NoEnd": "number",
}
ASKS = ("now", "waiting", "held", "told", "run", "done", "next", "ever")
NO_TEXTS = [
    0, 1, -1, 10 ** 99, True, False, None, [], ["now"], (), ("now",), {}, {"now": 1}, [[1], {}], ("come", "slow"),
]


def outcome(deed):
    try:
        return ("told", deed())
    except WaitError as refusal:
        kind = type(refusal).__name__
        return ("refused", kind) + ((getattr(refusal, FIELDS[kind]),) if kind in FIELDS else ())
    except Refused as refusal:
        return ("refused",) + refusal.told


def all_asked(desk, many):
    return [outcome(lambda: desk.say(line)) for line in ASKS + tuple(f"state {number}" for number in range(many + 1))]


class Both:
    """A desk and the plain one, to which the same is said; they must answer alike, and tell alike behind it."""

    def __init__(self, case):
        self.case = case
        self.desk = Desk()
        self.plain = PlainDesk()

    def same(self, answer, known):
        self.case.assertEqual(answer, known)
        self.case.assertEqual(repr(answer), repr(known))

    def check(self):
        many = len(self.plain.house.pieces) if self.plain.house else 0
        self.same(all_asked(self.desk, many), all_asked(self.plain, many))

    def say(self, line):
        with self.case.subTest(line=line):
            answer = outcome(lambda: self.desk.say(line))
            self.same(answer, outcome(lambda: self.plain.say(line)))
            self.check()
        return answer[1] if answer[0] == "told" else answer


class DeskCase(unittest.TestCase):
    def desk(self, *lines):
        desk = Desk()
        for line in (HOUSE,) + lines:
            desk.say(line)
        return desk

    def answers(self, desk, *pairs):
        for line, known in pairs:
            with self.subTest(line=line):
                answer = desk.say(line)
                self.assertIs(type(answer), str)
                self.assertEqual(answer, known)

    def refused(self, desk, line, kind, *field):
        before = all_asked(desk, 5)
        with self.subTest(line=line):
            with self.assertRaises(kind) as caught:
                desk.say(line)
            self.assertIs(type(caught.exception), kind)
            if field:
                told = getattr(caught.exception, FIELDS[kind.__name__])
                self.assertEqual((told, type(told)), (field[0], type(field[0])))
            self.assertEqual(all_asked(desk, 5), before)


class TestInterface(DeskCase):
    def test_names_of_arguments(self):
        self.assertEqual(str(inspect.signature(Desk)), "()")
        self.assertEqual(str(inspect.signature(Desk.say)), "(self, line)")
        self.assertEqual(Desk().say(line=HOUSE), "ok")


class TestHouseLines(DeskCase):
    def test_without_a_house_there_is_no_other_line(self):
        desk = Desk()
        lines = ASKS + (
            "come slow", "hold slow 0", "change 0 slow", "speed slow 1", "fewer 1", "tell 0", "off 0", "pass",
            "pass 0",
            "pass 9", "turns 0", "turns 999", "state 0", "last 0", "order 0", "changes 0 1", "", " ", "house",
            "house 1",
        )
        for line in lines + tuple(NO_TEXTS):
            self.refused(desk, line, NoLine)

    def test_a_house(self):
        for line in (HOUSE, "house 6 a:0:0:1:1", "house 1 abcdefgh:1000000:1000000/11:4:3"):
            desk = Desk()
            self.answers(desk, (line, "ok"), ("now", "0"), ("waiting", "-"))

    def test_eight_sorts_in_their_order(self):
        names = "hgfedcba"
        line = "house 6 " + " ".join(f"{name}:9:0:1:1" for name in names)
        desk = Desk()
        self.answers(desk, (line, "ok"))
        for place, name in enumerate(names):
            self.answers(desk, (f"come {name}", f"granted {place}"))
        # Both h and a may come last, so the one that stands first is told.
        desk.say("house 1 low:1:0:1:1 h:9:0:1:1 a:9:0:1:1")
        self.answers(desk, ("come low", "granted 0"), ("last 0", "0 h"))

    def test_a_second_house_line_forgets_what_was_before(self):
        desk = self.desk("come slow", "hold quick 5", "pass", "come quick")
        self.answers(
            desk, ("house 2 grey:1/2:1/3:1:1", "ok"), ("now", "0"), ("waiting", "-"), ("held", "-"), ("told", "-"),
            ("done", "-"), ("run", "-"),
        )
        self.refused(desk, "come slow", NoSort, "slow")
        self.refused(desk, "state 0", NoPiece, 0)
        self.answers(desk, ("come grey", "granted 0"), ("fewer 2", "granted"))

    def test_a_house_line_that_is_refused(self):
        nine = " ".join(f"{name}:1:1:1:1" for name in "abcdefghi")
        for desk in (Desk(), self.desk("come slow", "pass", "hold quick 4")):
            self.refused(desk, "house 0 a:1:1:1:1", NoHands, 0)
            self.refused(desk, "house 7 a:1:1:1:1", NoHands, 7)
            self.refused(desk, "house 9999999999999999 a:1:1:1:1", NoHands, 9999999999999999)
            for sorts in (
                "a:1:1:0:1", "a:1:1:5:1", "a:1:1:1:0", "a:1:1:1:4", "a:1:1:1:1 a:2:2:2:2", nine,
                "a:1:1:9999999999999999:1",
            ):
                for hands in ("0", "1", "6", "7"):
                    self.refused(desk, f"house {hands} {sorts}", NoSorts)

    def test_nearly_house_lines(self):
        texts = [
            "house", "house ", "house 1", "house 1 ", "house a:1:1:1:1", " house 1 a:1:1:1:1", "house  1 a:1:1:1:1",
            "house 1  a:1:1:1:1", "house 1 a:1:1:1:1 ", "house 1 a:1:1:1:1  b:1:1:1:1", "House 1 a:1:1:1:1",
            "house 01 a:1:1:1:1", "house +1 a:1:1:1:1", "house -1 a:1:1:1:1", "house -0 a:1:1:1:1",
            "house 10000000000000000 a:1:1:1:1", "house 1/2 a:1:1:1:1", "house one a:1:1:1:1", "house 1 a:1:1:1",
            "house 1 a:1:1:1:1:1", "house 1 a:1:1:1:", "house 1 :1:1:1:1", "house 1 a::1:1:1", "house 1 a:1::1:1",
            "house 1 a:1:1::1", "house 1 A:1:1:1:1", "house 1 a1:1:1:1:1", "house 1 abcdefghi:1:1:1:1",
            "house 1 a:6/4:1:1:1", "house 1 a:1:6/4:1:1", "house 1 a:2/1:1:1:1", "house 1 a:1/13:1:1:1",
            "house 1 a:1000001:1:1:1", "house 1 a:1:1000001:1:1", "house 1 a:0/5:1:1:1", "house 1 a:-1:1:1:1",
            "house 1 a:1:01:1:1", "house 1 a:1:1:01:1", "house 1 a:1:1:1:01", "house 1 a:1:1:-1:1",
            "house 1 a:1:1:1:1/2",
            "house 1 a:1:1:1:10000000000000000", "house 1 a: 1:1:1:1", "house 1 a;1;1;1;1", "house 1 a:1:1:1:1\n",
            "house\t1 a:1:1:1:1", "house 1 a:1:1:1:1 b", "house 1 b a:1:1:1:1", "house:1 a:1:1:1:1",
            "house 1,a:1:1:1:1",
            "house 1 a:1:1:1:1 now", "house 1 a:1:1:1:\u0661", "house \u0661 a:1:1:1:1", "house 1 \u00e4:1:1:1:1",
        ]
        for desk in (Desk(), self.desk("come slow")):
            for line in texts:
                self.refused(desk, line, NoLine)


class TestDoing(DeskCase):
    def test_come_and_hold(self):
        desk = self.desk()
        self.answers(
            desk, ("come slow", "granted 0"), ("come quick", "granted 1"), ("come slow", "late 1 told 3 over 5"),
            ("hold slow 4", "granted 2"), ("hold slow 0", "late 1 told 3 over 5"), ("hold long 400", "granted 3"),
            ("held", "2 slow 4; 3 long 400"), ("told", "0 1; 1 3"), ("turns 4", "0: 0; 1: 0; 2: 1; 3: 1"),
            ("come slow", "granted 2"), ("held", "3 long 400"), ("told", "2 5"), ("run", "4: 2; 5: 2; " + "; ".join(
                [f"{turn}: -" for turn in range(6, 400)] + [f"{turn}: 3" for turn in range(400, 412)])),
        )
        self.refused(desk, "come nobody", NoSort, "nobody")
        self.refused(desk, "hold nobody 3", NoSort, "nobody")
        self.refused(desk, "hold slow 3", NoTurn, 3)
        self.refused(desk, "hold slow 405", NoTurn, 405)
        self.refused(desk, "hold slow 9999999999999999", NoTurn, 9999999999999999)

    def test_forty_and_one_more(self):
        desk = self.desk("hold quick 0", "hold quick 0")
        for number in range(2, 40):
            self.answers(desk, ("hold long 400", f"granted {number}"))
        self.refused(desk, "come slow", TooMany)
        self.refused(desk, "hold slow 0", TooMany)
        self.answers(desk, ("come quick", "granted 0"), ("come quick", "granted 1"))
        self.refused(desk, "come quick", TooMany)
        self.refused(desk, "come nobody", NoSort, "nobody")
        self.refused(desk, "hold long 401", NoTurn, 401)

    def test_change_speed_and_fewer(self):
        desk = Desk()
        desk.say("house 2" + HOUSE[7:])
        self.answers(
            desk, ("hold long 0", "granted 0"), ("come slow", "granted 1"), ("come quick", "granted 2"),
            ("change 2 long", "late 2 told 2 over 3"), ("state 2", "waiting quick 0 2 0: 2"),
            ("change 1 quick", "granted"), ("state 1", "waiting quick 0 1 0: 1"), ("change 1 slow", "granted"),
            ("speed quick 5/2", "granted"), ("speed quick 0", "late 2 told 2 over 3"), ("fewer 2", "granted"),
            ("fewer 1", "late 2 told 2 over 3"), ("off 1", "ok"), ("fewer 1", "granted"),
        )
        self.refused(desk, "change 3 slow", NoPiece, 3)
        self.refused(desk, "change 0 nobody", Over, 0)
        self.refused(desk, "change 1 nobody", Over, 1)
        self.refused(desk, "change 2 nobody", NoSort, "nobody")
        self.refused(desk, "speed nobody 1", NoSort, "nobody")
        self.refused(desk, "fewer 0", NoHands, 0)
        self.refused(desk, "fewer 2", NoHands, 2)

    def test_tell_and_off(self):
        desk = self.desk("come slow", "come quick", "hold slow 9")
        self.answers(
            desk, ("tell 1", "3"), ("pass 0 0:done", "0: 0"), ("tell 1", "2"), ("state 1", "waiting quick 0 2 0: 3 3 2"),
            ("off 1", "ok"), ("state 1", "called off quick 0 2 0: 3 3 2"), ("off 2", "ok"),
            ("state 2", "called off slow 9 1 0: -"), ("told", "-"),
        )
        for word in ("tell", "off"):
            self.refused(desk, f"{word} 3", NoPiece, 3)
            self.refused(desk, f"{word} 9999999999999999", NoPiece, 9999999999999999)
            for number in range(3):
                self.refused(desk, f"{word} {number}", Over, number)

    def test_pass(self):
        desk = self.desk("come slow", "come quick", "come long")
        self.answers(
            desk, ("pass", "0: 0"), ("pass 2", "1: 0 1 2"), ("pass 0 1:failed", "2: 1"), ("pass 6 2:done", "3: 2"),
            ("pass 6", "4: -"), ("pass", "5: -"), ("state 0", "given up slow 0 0 0: 1"),
            ("state 1", "given up quick 0 0 0: 3"), ("state 2", "done long 0 3 1: 15"),
            ("done", "0: 0; 1: 0 1 2; 2: 1; 3: 2; 4: -; 5: -"), ("now", "6"),
        )

    def test_several_ends(self):
        desk = self.desk("come long", "come long", "come long")
        self.answers(
            desk, ("pass 2 2:failed 0:done", "0: 0 1 2"), ("state 0", "done long 0 3 0: 11"),
            ("state 1", "waiting long 0 3 1: 23"), ("state 2", "waiting long 0 2 0: 35"),
        )

    def test_refusals_of_pass(self):
        desk = self.desk("come slow", "come quick", "hold slow 0")
        self.refused(desk, "pass 7", NoHands, 7)
        self.refused(desk, "pass 7 0:done", NoHands, 7)
        self.refused(desk, "pass 9999999999999999 5:done", NoHands, 9999999999999999)
        self.refused(desk, "pass 0 1:done", NoEnd, 1)
        self.refused(desk, "pass 1 0:done 2:done 3:failed", NoEnd, 2)
        self.refused(desk, "pass 1 3:done 2:done", NoEnd, 3)
        self.refused(desk, "pass 0 9999999999999999:failed", NoEnd, 9999999999999999)

    def test_turns(self):
        desk = self.desk("come slow")
        rows = ["0: 0", "1: 0"] + [f"{turn}: -" for turn in range(2, 100)]
        self.answers(desk, ("turns 0", "-"), ("done", "-"), ("turns 100", "; ".join(rows)), ("done", "; ".join(rows)))
        self.refused(desk, "turns 101", NoTurn, 101)
        self.refused(desk, "turns 9999999999999999", NoTurn, 9999999999999999)


class TestAsking(DeskCase):
    def test_nothing_to_tell(self):
        desk = self.desk()
        self.answers(
            desk, ("now", "0"), ("waiting", "-"), ("held", "-"), ("told", "-"), ("run", "-"), ("done", "-"), ("next", "-"),
            ("ever", "-"), ("order 0", "-"), ("order 1000000000000000", "-"), ("changes 0 9", "-"), ("turns 0", "-"),
            ("pass", "0: -"), ("done", "0: -"), ("hold slow 2", "granted 0"), ("state 0", "held slow 2 1 0: -"),
            ("run", "1: -; 2: 0; 3: 0"), ("turns 2", "1: -; 2: -"), ("state 0", "missed slow 2 1 0: -"), ("held", "-"),
        )

    def test_what_a_house_tells(self):
        desk = self.desk("come slow", "come quick", "hold quick 3", "hold long 2", "pass")
        self.answers(
            desk, ("now", "1"), ("waiting", "0 1"), ("held", "2 quick 3; 3 long 2"), ("told", "0 1; 1 3"),
            ("run", "1: 0; 2: 1; 3: 1; 4: 3; 5: 2; 6: 2; " + "; ".join(f"{turn}: 3" for turn in range(7, 18))),
            ("done", "0: 0"), ("state 0", "waiting slow 0 1 1: 1"), ("state 1", "waiting quick 0 2 0: 3"),
            ("state 3", "held long 2 3 0: -"),
        )
        self.refused(desk, "state 4", NoPiece, 4)

    def test_last(self):
        desk = self.desk("come long", "hold slow 300")
        self.answers(desk, ("last 0", "9 slow"), ("turns 9", "; ".join(f"{turn}: 0" for turn in range(9))))
        self.answers(desk, ("last 0", "9 slow"), ("turns 1", "9: 0"), ("last 0", "-"))
        self.refused(desk, "last 2", NoPiece, 2)
        self.refused(desk, "last 1", Over, 1)

    def test_orders(self):
        desk = Desk()
        desk.say("house 6 a:5:1/2:1:1 b:1:3/2:1:1 c:4:1:1:1")
        for name in "abc":
            desk.say(f"come {name}")
        self.answers(
            desk, ("order 0", "0 2 1"), ("order 3", "2 0 1"), ("order 5", "2 1 0"), ("order 1000000000000000", "1 2 0"),
            ("next", "3: 2 0"), ("changes 0 5", "3 2 0; 5 1 0"), ("changes 3 5", "5 1 0"), ("changes 0 0", "-"),
            ("changes 0 1000000000000000", "3 2 0; 5 1 0; 6 1 2"), ("changes 6 1000000000000000", "-"),
            ("ever", "1 2 0"),
        )
        self.refused(desk, "order 1000000000000001", NoTurn, 1000000000000001)
        self.refused(desk, "order 9999999999999999", NoTurn, 9999999999999999)
        self.refused(desk, "changes 1000000000000001 0", NoTurn, 1000000000000001)
        self.refused(desk, "changes 5 4", NoTurn, 4)
        self.refused(desk, "changes 5 1000000000000001", NoTurn, 1000000000000001)

    def test_several_passings_at_one_turn(self):
        desk = Desk()
        desk.say("house 6 a:9:0:4:3 b:1:4:4:3 c:2:3:4:3")
        for name in "acb":
            desk.say(f"come {name}")
        self.answers(
            desk, ("next", "2: 2 1"), ("changes 0 9", "2 2 1; 3 1 0; 3 2 0"), ("turns 2", "0: 0 1 2; 1: 0 1 2"),
            ("next", "3: 1 0; 2 0"), ("pass", "2: 0 2 1"), ("next", "-"), ("ever", "2 1 0"),
        )

    def test_orders_ahead_of_a_coming(self):
        desk = self.desk("pass", "come slow", "hold quick 9")
        self.refused(desk, "order 0", NoTurn, 0)
        self.refused(desk, "changes 0 5", NoTurn, 0)
        # The place is no claim of one who waits.
        self.answers(desk, ("order 1", "0"), ("order 8", "0"), ("changes 1 8", "-"), ("ever", "0"), ("next", "-"))

    def test_far_changes(self):
        desk = Desk()
        desk.say("house 1 a:1000000:1/12:1:1 b:0:1/11:1:1")
        self.answers(
            desk, ("come a", "granted 0"), ("come b", "granted 1"), ("next", "132000001: 1 0"),
            ("changes 0 132000000", "-"), ("changes 0 132000001", "132000001 1 0"), ("ever", "1 0"),
        )


class TestNoLines(DeskCase):
    def test_things_of_other_kinds(self):
        desk = self.desk("come slow")
        for thing in NO_TEXTS:
            self.refused(desk, thing, NoLine)

    def test_nearly_lines(self):
        texts = [
            "", " ", "-", "now ", " now", "Now", "NOW", "now now", "now 0", "now\n", "\nnow", "now\t", "no", "nows",
            "waiting 0", "held 0", "told 0", "run 0", "done 0", "done:0", "next 0", "ever 0", "come", "come ",
            "come  slow",
            "come slow ", " come slow", "come Slow", "come slow slow", "come 0", "come slow 0", "come abcdefghi",
            "come slow\n",
            "come\tslow", "come sl\u00f6w", "hold", "hold slow", "hold slow ", "hold 3 slow", "hold slow 3 3",
            "hold slow 03",
            "hold slow +3", "hold slow -3", "hold slow -0", "hold slow  3", "hold slow 3 ", "hold slow 3.0",
            "hold slow three",
            "hold slow 10000000000000000", "hold slow \u0663", "change", "change 0", "change slow 0",
            "change 00 slow",
            "change 0 slow ", "change 0 0", "change -0 slow", "speed", "speed slow", "speed slow 6/4",
            "speed slow 2/1",
            "speed slow 1/13", "speed slow 0/5", "speed slow 1000001", "speed slow 01", "speed slow -1",
            "speed slow 1/",
            "speed slow /2", "speed slow 1/2/3", "speed slow 1 2", "speed 1 slow", "speed slow 1/02", "fewer",
            "fewer ",
            "fewer 01", "fewer -1", "fewer one", "fewer 1 1", "fewer 10000000000000000", "tell", "tell ", "tell 07",
            "tell +1",
            "tell 0 0", "tell slow", "off", "off 00", "off  0", "off 0 ", "state", "state 00", "state slow",
            "state 0 0",
            "last", "last 00", "last 0 0", "order", "order -1", "order 00", "order 0 0", "changes", "changes 0",
            "changes 0 0 0",
            "changes 0  1", "changes 00 1", "changes 0 01", "turns", "turns 00", "turns +1", "turns -1", "turns 1 1",
            "pass ", "pass  0", "pass 00", "pass -1", "pass +0", "pass 0 ", "pass 0 0", "pass 0:done",
            "pass 0 0:over",
            "pass 0 0:Done", "pass 0 0:", "pass 0 :done", "pass 0 00:done", "pass 0 0:done:", "pass 0 0:done ",
            "pass 0  0:done",
            "pass 0 0: done", "pass 0 0:done 0:done", "pass 0 0:done 0:failed", "pass 0 5:done 0:done 5:done",
            "pass 0 -1:done", "pass 0 0:done,1:done", "pass 7 0:done 0:done", "pass 0 10000000000000000:done",
            "pass 0 0done",
            "pass 0 0:given up", "pass slow", "house", "desk", "say now", "passes", "pass_turn", "come_to",
            "claims_now",
            "telling 0", "worst_run", "now;", "held;told",
        ]
        desk = self.desk("come slow", "come quick")
        for line in texts:
            self.refused(desk, line, NoLine)

    def test_no_line_goes_ahead_of_all_else(self):
        desk = self.desk("come slow")
        self.refused(desk, "hold nobody 03", NoLine)
        self.refused(desk, "change 99 Nobody", NoLine)
        self.refused(desk, "speed nobody 6/4", NoLine)
        self.refused(desk, "pass 9 0:done 0:done", NoLine)
        self.refused(desk, "house 0 a:1:1:1:1 b", NoLine)

    def test_numbers_of_sixteen_figures_and_more(self):
        desk = self.desk("come slow")
        most = 9999999999999999
        known = {
            "hold slow": NoTurn, "fewer": NoHands, "tell": NoPiece, "off": NoPiece, "turns": NoTurn, "state": NoPiece,
            "last": NoPiece, "order": NoTurn, "changes 0": NoTurn, "pass": NoHands,
        }
        for words, kind in known.items():
            self.refused(desk, f"{words} {most}", kind, most)
            self.refused(desk, f"{words} {most + 1}", NoLine)
            self.refused(desk, f"{words} {10 ** 99}", NoLine)
        self.refused(desk, f"change {most} slow", NoPiece, most)
        self.refused(desk, f"change {most + 1} slow", NoLine)
        self.refused(desk, f"pass 0 {most}:done", NoEnd, most)
        self.refused(desk, f"pass 0 {most + 1}:done", NoLine)


class TestOwn(DeskCase):
    def test_two_desks_have_nothing_in_common(self):
        one = self.desk("come slow")
        other = self.desk()
        before = all_asked(other, 1)
        for line in ("come quick", "hold slow 9", "speed long 9", "fewer 1", "turns 3"):
            one.say(line)
        self.assertEqual(all_asked(other, 1), before)
        self.assertRaises(NoLine, Desk().say, "now")

    def test_desks_used_alike_answer_alike(self):
        lines = ("come slow", "hold quick 2", "pass", "come quick", "turns 2", "speed slow 1", "fewer 1", "come long")
        one = self.desk(*lines)
        other = self.desk(*lines)
        self.assertEqual(all_asked(one, 3), all_asked(other, 3))
        self.assertEqual(all_asked(one, 3), all_asked(one, 3))


def some_weight(source):
    return source.choice(["0", "1", "2", "5", "1/2", "3/2", "7/3", "12", "1/12", "5/4"])


def some_house(source):
    names = source.sample(["a", "bb", "slow", "quick", "abcdefgh", "z", "grey", "no"], source.choice([1, 2, 3, 4, 8]))
    sorts = [
        f"{name}:{some_weight(source)}:{some_weight(source)}:{source.randint(1, 4)}:{source.randint(1, 3)}"
        for name in names
    ]
    return f"house {source.choice([1, 1, 2, 3, 6])} " + " ".join(sorts)


def some_line(source, house):
    name = source.choice(list(house.sorts) * 4 + ["nobody"])
    number = source.choice(house.words("waiting") * 8 + list(range(len(house.pieces) + 1)))
    here = [place[1] for place in house.held() if place[2] == house.turn]
    kind = source.choice(
        "come come come hold hold change speed fewer tell off pass pass pass pass turns last order changes".split()
    )
    if kind == "come":
        return f"come {source.choice(here) if here else name}"
    if kind == "hold":
        return f"hold {name} {max(0, house.turn + source.choice([-1, 0, 1, 2, 3, 5, 8]))}"
    if kind == "change":
        return f"change {number} {name}"
    if kind == "speed":
        return f"speed {name} {some_weight(source)}"
    if kind == "fewer":
        return f"fewer {max(0, house.hands + source.choice([-1, 0, 0, 1]))}"
    if kind == "turns":
        return f"turns {source.choice([0, 1, 2, 3])}"
    if kind == "order":
        return f"order {house.turn + source.choice([0, 1, 5, 50, 10 ** 6])}"
    if kind == "changes":
        return f"changes {house.turn + source.choice([0, 1, 5])} {house.turn + source.choice([3, 9, 99, 10 ** 9])}"
    if kind == "pass":
        more = source.choice([0, 0, 1, 6])
        ends = [
            f"{worked}:{source.choice(['done', 'failed'])}"
            for worked in house.waiting()[:house.hands + more + (source.random() < 0.1)] if source.random() < 0.3
        ]
        return source.choice(["pass", f"pass {more}", " ".join([f"pass {more}"] + source.sample(ends, len(ends)))])
    return f"{kind} {number}"


def nearly(source, line):
    """The line with one sign more, fewer or another one."""
    place = source.randrange(len(line) + 1)
    sign = source.choice(" 0123:/-+aezN\t\n.")
    front, back = line[:place], line[place:]
    return source.choice([front + sign + back, front + back[1:], front + sign + back[1:]])


class TestHistories(DeskCase):
    def test_up_to_the_end(self):
        source = random.Random(101)
        answers = []
        for step in range(40):
            both = Both(self)
            both.check()
            answers.append(both.say(some_house(source)))
            for place in range(40):
                answers.append(both.say(some_line(source, both.plain.house)))
            while both.plain.house.words("waiting", "held"):
                both.say("pass")
        told = [answer for answer in answers if isinstance(answer, str)]
        kinds = {answer[1] for answer in answers if not isinstance(answer, str)}
        self.assertGreater(len([answer for answer in told if answer.startswith("late ")]), 30)
        self.assertGreater(len([answer for answer in told if answer.startswith("granted ")]), 100)
        self.assertGreater(told.count("granted"), 50)
        self.assertLessEqual({"NoSort", "NoTurn", "NoPiece", "Over", "NoHands", "NoEnd"}, kinds)

    def test_of_nearly_lines(self):
        source = random.Random(102)
        kinds = []
        for step in range(40):
            both = Both(self)
            for place in range(20):
                house = both.plain.house
                line = some_house(source) if house is None or source.random() < 0.1 else some_line(source, house)
                for again in range(3):
                    kinds.append(both.say(nearly(source, line)))
                both.say(line)
        refused = [kind[1] for kind in kinds if not isinstance(kind, str)]
        self.assertGreater(refused.count("NoLine"), 500)
        self.assertGreater(len(kinds) - len(refused), 100)

    def test_of_six_hundred_deeds(self):
        source = random.Random(103)
        both = Both(self)
        both.say(some_house(source))
        for place in range(600):
            line = some_line(source, both.plain.house)
            if place % 30:
                both.same(outcome(lambda: both.desk.say(line)), outcome(lambda: both.plain.say(line)))
            else:
                both.say(line)
        both.check()


if __name__ == "__main__":
    unittest.main()
