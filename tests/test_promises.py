"""The promises over the whole: points 8, 9, 55, 75, 92, 98 and 99, in histories of a house."""

import pathlib
import random
import sys
import unittest

from greywait.errors import NoTurn, WaitError
from greywait.house import House
from greywait.latest import shows_latest
from greywait.orders import changes, for_ever, last_change, next_change, order_at, rank_at
from greywait.pairs import ahead
from greywait.verdicts import Verdict

sys.path.insert(0, str(pathlib.Path(__file__).resolve().parent))

from plain import last_turn, parts_at, run

ASKED = ("come", "hold", "change", "change_speed", "fewer")


def some_sorts(source, many, most=9):
    return [
        (name, (source.randint(0, most), source.randint(1, 4)), (source.randint(0, most), source.randint(1, 4)),
         source.randint(1, 4), source.randint(1, 3))
        for name in source.sample(["a", "bb", "ccc", "dddd", "eeeee", "ffffff", "ggggggg", "hhhhhhhh"], many)
    ]


def some_deed(source, house, names, hands, gentle):
    """A deed by its name and things; a gentle one asks for no other sort or speed."""
    waiting = house.waiting()
    places = [place for place in house.held() if place[2] == house.now()]
    kinds = ["come", "come", "hold", "hold", "tell", "off", "pass", "pass", "pass", "fewer"]
    kind = source.choice(kinds if gentle else kinds + ["change", "speed"])
    if kind == "come":
        return ("come", source.choice(places)[1] if places and source.random() < 0.8 else source.choice(names))
    if kind == "hold":
        return ("hold", source.choice(names), house.now() + source.randint(0, 8))
    if kind == "fewer":
        return ("fewer", source.randint(1, hands))
    if kind == "speed":
        return ("change_speed", source.choice(names), (source.randint(0, 9), source.randint(1, 4)))
    if waiting and kind == "change":
        return ("change", source.choice(waiting), source.choice(names))
    if waiting and kind == "tell":
        return ("tell", source.choice(waiting))
    if waiting and kind == "off" and source.random() < 0.3:
        return ("call_off", source.choice(waiting))
    more = source.choice([0, 0, 0, 1, 6])
    ends = {number: source.choice(["done", "failed"]) for number in waiting[:1] if source.random() < 0.4}
    return ("pass_turn", ends, more)


def done_by(house, deed):
    try:
        return getattr(house, deed[0])(*deed[1:])
    except WaitError as refusal:
        return refusal


def made_alike(sorts, hands, deeds):
    house = House(sorts, hands)
    for deed in deeds:
        done_by(house, deed)
    return house


class PromiseCase(unittest.TestCase):
    def history(self, source, deeds=30, gentle=False):
        """Yields, deed by deed, the sorts, the hands, the deeds done so far, the house behind them and the answer."""
        sorts = some_sorts(source, source.randint(1, 4))
        hands = source.randint(1, 3)
        house = House(sorts, hands)
        done = []
        for step in range(deeds):
            deed = some_deed(source, house, [row[0] for row in sorts], hands, gentle)
            answer = done_by(house, deed)
            done.append(deed)
            yield sorts, hands, done, house, answer
        while house.chores_now():
            done.append(("pass_turn",))
            yield sorts, hands, done, house, house.pass_turn()


class TestToldNumbers(PromiseCase):
    def states(self, house):
        told = []
        while True:
            try:
                told.append(house.state(len(told)))
            except WaitError:
                return told

    def test_nobody_is_over_later_than_told_and_told_numbers_never_rise(self):
        source = random.Random(9)
        over = 0
        for step in range(60):
            before = {}
            for sorts, hands, done, house, answer in self.history(source):
                worked = {number: turn for turn, numbers in house.rows_done() for number in numbers}
                for number, state in enumerate(self.states(house)):
                    numbers = state[5]
                    with self.subTest(deeds=done, number=number):
                        self.assertEqual(numbers, sorted(numbers, reverse=True))
                        # What was told stays told.
                        self.assertEqual(numbers[:len(before.get(number, []))], before.get(number, []))
                        if number in worked:
                            self.assertLessEqual(worked[number], min(numbers))
                        before[number] = numbers
                        over += state[0] in ("done", "given up")
                latest = {number: last_turn(house.worst_run(), number) for number in house.told_now()}
                for number, turn in house.told_now().items():
                    self.assertGreaterEqual(turn, latest[number])
        self.assertGreater(over, 500)

    def test_whoever_came_was_told_and_nobody_else(self):
        source = random.Random(10)
        for step in range(30):
            for sorts, hands, done, house, answer in self.history(source):
                for state in self.states(house):
                    if state[0] in ("held", "missed"):
                        self.assertEqual(state[5], [])
                    elif state[0] != "called off":
                        self.assertNotEqual(state[5], [])
                self.assertEqual(sorted(house.told_now()), sorted(house.waiting()))

    def worst_way(self, house, number):
        """Everybody comes to held places, no try ends sooner, nobody helps: the rows until the piece is over."""
        rows = []
        while house.state(number)[0] == "waiting":
            for place in house.held():
                if place[2] == house.now():
                    self.assertTrue(house.come(place[1]).granted())
            rows.append(house.pass_turn())
        return rows

    def test_each_told_number_could_not_be_lower(self):
        source = random.Random(11)
        seen = 0
        for step in range(40):
            for sorts, hands, done, house, answer in self.history(source):
                if done[-1][0] == "tell":
                    number, told = done[-1][1], answer
                elif done[-1][0] == "come" and isinstance(answer, Verdict) and answer.granted():
                    number, told = answer.number, house.state(answer.number)[5][0]
                else:
                    continue
                other = made_alike(sorts, hands, done)
                rows = self.worst_way(other, number)
                with self.subTest(deeds=done):
                    self.assertEqual(rows[-1][0], told)
                    self.assertIn(number, rows[-1][1])
                    self.assertEqual(other.state(number)[0], "given up")
                    self.assertEqual(rows, [row for row in house.worst_run() if row[0] <= told])
                seen += 1
        self.assertGreater(seen, 200)


class TestVerdicts(PromiseCase):
    def chores_asked(self, house, deed, number, speeds):
        """The house's chores as they would be, from what it told ahead of the deed."""
        chores = house.chores_now()
        name, things = deed[0], deed[1:]
        if name in ("come", "hold"):
            weight, speed, span, tries = speeds[things[0]]
            came = house.now() if name == "come" else things[1]
            return chores + [((number, weight, speed, came), span * tries)]
        if name == "change":
            weight, speed = speeds[things[1]][:2]
            return [
                ((claim[0], weight, speed, claim[3]) if claim[0] == things[0] else claim, left)
                for claim, left in chores
            ]
        if name == "change_speed":
            sorts = {claim[0]: house.state(claim[0])[1] for claim, left in chores}
            return [
                (claim[:2] + (things[1],) + claim[3:] if sorts[claim[0]] == things[0] else claim, left)
                for claim, left in chores
            ]
        return chores

    def late_in(self, chores, hands, begin, told):
        rows = run(chores, hands, begin)
        for number in sorted(told):
            if last_turn(rows, number) > told[number]:
                return ("late", number, told[number], last_turn(rows, number), rows)
        return None

    def test_granted_just_where_every_told_number_still_holds(self):
        source = random.Random(12)
        seen = []
        for step in range(80):
            sorts = some_sorts(source, source.randint(1, 4))
            hands = source.randint(1, 3)
            speeds = {row[0]: row[1:] for row in sorts}
            house = House(sorts, hands)
            many = 0
            for place in range(30):
                deed = some_deed(source, house, list(speeds), hands, False)
                takes = deed[0] == "come" and any(row[1:] == (deed[1], house.now()) for row in house.held())
                chores = self.chores_asked(house, deed, many, speeds)
                told = house.told_now()
                before = (house.chores_now(), house.worst_run())
                answer = done_by(house, deed)
                if deed[0] not in ASKED or takes:
                    continue
                with self.subTest(deed=deed, chores=chores, told=told):
                    self.assertIsInstance(answer, Verdict)
                    asked_hands = deed[1] if deed[0] == "fewer" else hands
                    late = self.late_in(chores, asked_hands, house.now(), told)
                    if late is None:
                        self.assertEqual(answer.told(), ("granted", many if deed[0] in ("come", "hold") else None))
                        self.assertEqual(house.worst_run(), run(chores, asked_hands, house.now()))
                        many += deed[0] in ("come", "hold")
                        hands = asked_hands
                        if deed[0] == "change_speed":
                            speeds[deed[1]] = speeds[deed[1]][:1] + (deed[2],) + speeds[deed[1]][2:]
                    else:
                        self.assertEqual(answer.told(), late)
                        self.assertEqual((house.chores_now(), house.worst_run()), before)
                        self.assertEqual(house.told_now(), told)
                seen.append((deed[0], late is None))
        for name in ASKED:
            self.assertGreater(seen.count((name, True)), 5, name)
            self.assertGreater(seen.count((name, False)), 5, name)

    def test_the_run_of_a_late_one_shows_its_turn(self):
        source = random.Random(13)
        seen = 0
        for step in range(40):
            sorts = some_sorts(source, 3)
            house = House(sorts, 1)
            speeds = {row[0]: row[1:] for row in sorts}
            for place in range(20):
                name = source.choice(list(speeds))
                chores = self.chores_asked(house, ("come", name), len(house.told_now()), speeds)
                answer = house.come(name)
                if not answer.granted():
                    rows = [row for row in answer.run if row[0] <= answer.turn]
                    self.assertTrue(shows_latest(chores, 1, 0, answer.number, answer.turn, rows))
                    self.assertGreater(answer.turn, answer.due)
                    self.assertEqual(answer.due, house.told_now()[answer.number])
                    seen += 1
        self.assertGreater(seen, 50)


class TestLastComers(PromiseCase):
    def able(self, claim, row, came, until):
        comer = (10 ** 9, row[1], row[2], came)
        return any(parts_at(comer, turn) > parts_at(claim, turn) for turn in range(came, until + 1))

    def test_the_last_comer_of_each_who_waits(self):
        source = random.Random(98)
        seen = []
        for step in range(25):
            for sorts, hands, done, house, answer in self.history(source, gentle=True):
                for claim in house.claims_now()[:3]:
                    number = claim[0]
                    until = last_turn(house.worst_run(), number)
                    known = None
                    for came in range(house.now(), until + 1):
                        names = [row[0] for row in sorts if self.able(claim, row, came, until)]
                        known = (came, names[0]) if names else known
                    with self.subTest(deeds=done, number=number):
                        self.assertEqual(house.comers_until(number), known)
                    seen.append(known is None)
        self.assertGreater(seen.count(True), 20)
        self.assertGreater(seen.count(False), 20)

    def test_who_comes_behind_that_turn_is_never_ahead_while_the_piece_waits(self):
        source = random.Random(99)
        seen = 0
        for step in range(40):
            last = {}
            came = {}
            for sorts, hands, done, house, answer in self.history(source, gentle=True):
                claims = {claim[0]: claim for claim in house.claims_now()}
                for number in claims:
                    if number not in last:
                        comer = house.comers_until(number)
                        last[number] = -1 if comer is None else comer[0]
                        came[number] = house.now()
                for number, claim in claims.items():
                    for other in claims.values():
                        # Those who came ahead of the asking were no comers any more.
                        if other[3] > max(last[number], came[number]):
                            with self.subTest(deeds=done, number=number, other=other[0]):
                                self.assertFalse(ahead(other, claim, house.now()))
                            seen += 1
        self.assertGreater(seen, 20)

    def test_by_the_sorts_as_they_are(self):
        house = House([("low", (5, 1), (1, 1), 4, 3), ("high", (3, 1), (0, 1), 1, 1)], 1)
        house.come("low")
        self.assertEqual(house.comers_until(0), None)
        house.change_speed("high", (2, 1))
        self.assertEqual(house.comers_until(0), (4, "high"))
        house.pass_turns(5)
        self.assertEqual(house.comers_until(0), None)

    def test_by_the_latest_turn_and_not_by_the_told_one(self):
        house = House([("low", (5, 1), (1, 1), 1, 3), ("high", (3, 1), (2, 1), 4, 1)], 1)
        house.hold("high", 1)
        house.come("low")
        self.assertEqual((house.told_now(), house.worst_run()[-1]), ({1: 2}, (6, [0])))
        self.assertEqual(house.comers_until(1), None)
        house = House([("low", (5, 1), (1, 1), 4, 3), ("high", (6, 1), (3, 1), 4, 1)], 1)
        house.hold("high", 0)
        house.come("low")
        self.assertEqual((house.told_now(), house.comers_until(1)), ({1: 15}, (10, "high")))
        house.pass_turn()
        self.assertEqual((house.told_now(), house.comers_until(1)), ({1: 15}, (7, "high")))


class TestOrders(PromiseCase):
    def test_orders_of_those_who_wait(self):
        source = random.Random(8)
        for step in range(40):
            for sorts, hands, done, house, answer in self.history(source, deeds=20):
                claims = house.claims_now()
                now = house.now()
                self.assertEqual(order_at(claims, now), house.waiting())
                last = last_change(claims, now)
                end = now if last is None else last
                found = changes(claims, now, end)
                self.assertEqual(order_at(claims, end), for_ever(claims))
                self.assertEqual(order_at(claims, end + 10 ** 9), for_ever(claims))
                # Of two claims the one passes the other at most once.
                self.assertEqual(len({frozenset(row[1:]) for row in found}), len(found))
                for number in house.waiting():
                    passed = len([row for row in found if row[2] == number])
                    passes = len([row for row in found if row[1] == number])
                    self.assertEqual(rank_at(claims, number, end), rank_at(claims, number, now) + passed - passes)
                following = next_change(claims, now)
                if following is None:
                    self.assertEqual(found, [])
                else:
                    self.assertEqual(following[1], [row[1:] for row in found if row[0] == found[0][0]])
                    self.assertEqual(order_at(claims, following[0] - 1), house.waiting())

    def test_far_changes_of_those_who_wait(self):
        house = House([("slow", (1000000, 1), (0, 1), 4, 3), ("quick", (0, 1), (1, 12), 4, 3)], 1)
        house.come("slow")
        house.come("quick")
        self.assertEqual(next_change(house.claims_now(), 0), (12000001, [(1, 0)]))
        self.assertEqual(for_ever(house.claims_now()), [1, 0])
        with self.assertRaises(NoTurn):
            order_at(house.claims_now(), 10 ** 15 + 1)


if __name__ == "__main__":
    unittest.main()
