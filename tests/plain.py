"""A plain reckoning of a house and of a desk, of its own: nothing in it comes from the package.

Weights are whole numbers here: each is told in parts of 27720, which every bottom from 1 to 12 divides.
What is refused is raised as Refused, with the name of the refusal and its field (none where it has none).
"""

import math
import re

PARTS = 27720
FAR = 10 ** 40


class Refused(Exception):
    def __init__(self, kind, *field):
        Exception.__init__(self, kind, *field)
        self.told = (kind,) + field


def is_count(thing, low, high):
    return type(thing) is int and low <= thing <= high


def is_weight(thing):
    return type(thing) is tuple and len(thing) == 2 and is_count(thing[0], 0, 1000000) and is_count(thing[1], 1, 12)


def in_lowest(weight):
    divisor = math.gcd(*weight)
    return (weight[0] // divisor, weight[1] // divisor)


def is_sort(thing):
    if type(thing) is not tuple or len(thing) != 5:
        return False
    name, weight, speed, span, tries = thing
    if type(name) is not str or not re.fullmatch("[a-z]{1,8}", name):
        return False
    return is_weight(weight) and is_weight(speed) and is_count(span, 1, 4) and is_count(tries, 1, 3)


def are_sorts(thing):
    if type(thing) is not list or not 1 <= len(thing) <= 8 or not all(is_sort(row) for row in thing):
        return False
    return len({row[0] for row in thing}) == len(thing)


def parts_at(claim, turn):
    number, weight, speed, came = claim
    return weight[0] * PARTS // weight[1] + (turn - came) * (speed[0] * PARTS // speed[1])


def place_at(claim, turn):
    return (-parts_at(claim, turn), claim[3], claim[0])


def order(claims, turn):
    if not is_count(turn, 0, 10 ** 15) or any(claim[3] > turn for claim in claims):
        raise Refused("NoTurn", turn)
    return [claim[0] for claim in sorted(claims, key=lambda claim: place_at(claim, turn))]


def passings(claims, begin):
    """All passings behind a turn: who is behind stays behind, or is ahead from some turn on, which is closed in on."""
    found = []
    for front in claims:
        for back in claims:
            if place_at(front, begin) < place_at(back, begin) and place_at(back, FAR) < place_at(front, FAR):
                low, high = begin, FAR
                while high - low > 1:
                    middle = (low + high) // 2
                    if place_at(back, middle) < place_at(front, middle):
                        high = middle
                    else:
                        low = middle
                found.append((high, back[0], front[0]))
    return sorted(found)


def run(chores, hands, begin):
    left = {claim[0]: turns for claim, turns in chores}
    rows = []
    turn = begin
    while any(left.values()):
        there = [claim for claim, turns in chores if left[claim[0]] > 0 and claim[3] <= turn]
        worked = [claim[0] for claim in sorted(there, key=lambda claim: place_at(claim, turn))[:hands]]
        for number in worked:
            left[number] -= 1
        rows.append((turn, worked))
        turn += 1
    return rows


def last_turn(rows, number):
    return max(turn for turn, worked in rows if number in worked)


class PlainHouse:
    def __init__(self, sorts, hands):
        if not are_sorts(sorts):
            raise Refused("NoSorts")
        if not is_count(hands, 1, 6):
            raise Refused("NoHands", hands)
        self.sorts = {row[0]: [in_lowest(row[1]), in_lowest(row[2]), row[3], row[4]] for row in sorts}
        self.hands = hands
        self.turn = 0
        self.pieces = []
        self.rows = []

    def words(self, *words):
        return [number for number, piece in enumerate(self.pieces) if piece["word"] in words]

    def claim(self, number):
        piece = self.pieces[number]
        return (number, self.sorts[piece["sort"]][0], self.sorts[piece["sort"]][1], piece["came"])

    def claims_now(self):
        return [self.claim(number) for number in self.words("waiting")]

    def left(self, number):
        piece = self.pieces[number]
        return piece["tries"] * piece["span"] - piece["spent"]

    def chores_now(self):
        return [(self.claim(number), self.left(number)) for number in self.words("waiting", "held")]

    def worst_run(self):
        return run(self.chores_now(), self.hands, self.turn)

    def told_now(self):
        return {number: self.pieces[number]["told"][-1] for number in self.words("waiting")}

    def latest(self, number):
        return last_turn(self.worst_run(), number)

    def verdict(self, number):
        """What is asked was done already: who called takes it back where this tells who is late."""
        rows = self.worst_run()
        for late, told in sorted(self.told_now().items()):
            if last_turn(rows, late) > told:
                return ("late", late, told, last_turn(rows, late), rows)
        return ("granted", number)

    def check_sort(self, sort):
        if type(sort) is not str or sort not in self.sorts:
            raise Refused("NoSort", sort)

    def check_piece(self, number, *words):
        if not is_count(number, 0, len(self.pieces) - 1):
            raise Refused("NoPiece", number)
        if self.pieces[number]["word"] not in words:
            raise Refused("Over", number)

    def add(self, word, sort, came):
        if len(self.words("waiting", "held")) >= 40:
            raise Refused("TooMany")
        span, tries = self.sorts[sort][2:]
        self.pieces.append(
            {"word": word, "sort": sort, "came": came, "span": span, "tries": tries, "spent": 0, "told": []}
        )
        return len(self.pieces) - 1

    def come(self, sort):
        self.check_sort(sort)
        for number in self.words("held"):
            if self.pieces[number]["sort"] == sort and self.pieces[number]["came"] == self.turn:
                self.pieces[number]["word"] = "waiting"
                self.pieces[number]["told"] = [self.latest(number)]
                return ("granted", number)
        number = self.add("held", sort, self.turn)
        verdict = self.verdict(number)
        if verdict[0] == "late":
            self.pieces.pop()
        else:
            self.pieces[number]["word"] = "waiting"
            self.pieces[number]["told"] = [self.latest(number)]
        return verdict

    def hold(self, sort, turn):
        self.check_sort(sort)
        if not is_count(turn, self.turn, self.turn + 400):
            raise Refused("NoTurn", turn)
        verdict = self.verdict(self.add("held", sort, turn))
        if verdict[0] == "late":
            self.pieces.pop()
        return verdict

    def change(self, number, sort):
        self.check_piece(number, "waiting")
        self.check_sort(sort)
        before = self.pieces[number]["sort"]
        self.pieces[number]["sort"] = sort
        verdict = self.verdict(None)
        if verdict[0] == "late":
            self.pieces[number]["sort"] = before
        return verdict

    def change_speed(self, sort, speed):
        self.check_sort(sort)
        if not is_weight(speed):
            raise Refused("NoWeight")
        before = self.sorts[sort][1]
        self.sorts[sort][1] = in_lowest(speed)
        verdict = self.verdict(None)
        if verdict[0] == "late":
            self.sorts[sort][1] = before
        return verdict

    def fewer(self, hands):
        if not is_count(hands, 1, self.hands):
            raise Refused("NoHands", hands)
        before = self.hands
        self.hands = hands
        verdict = self.verdict(None)
        if verdict[0] == "late":
            self.hands = before
        return verdict

    def tell(self, number):
        self.check_piece(number, "waiting")
        self.pieces[number]["told"].append(self.latest(number))
        return self.pieces[number]["told"][-1]

    def call_off(self, number):
        self.check_piece(number, "waiting", "held")
        self.pieces[number]["word"] = "called off"

    def pass_turn(self, ends=None, more=0):
        if not is_count(more, 0, 6):
            raise Refused("NoHands", more)
        worked = self.waiting()[:self.hands + more]
        for number, end in (ends or {}).items():
            if type(number) is not int or number not in worked or end not in ("done", "failed"):
                raise Refused("NoEnd", number)
        for number in self.words("held"):
            if self.pieces[number]["came"] == self.turn:
                self.pieces[number]["word"] = "missed"
        for number in worked:
            self.work(self.pieces[number], (ends or {}).get(number))
        self.rows.append((self.turn, worked))
        self.turn += 1
        return (self.turn - 1, list(worked))

    def work(self, piece, end):
        if end == "done":
            piece["word"] = "done"
        elif end == "failed" or piece["spent"] + 1 == piece["span"]:
            piece["spent"] = 0
            piece["tries"] -= 1
            if piece["tries"] == 0:
                piece["word"] = "given up"
        else:
            piece["spent"] += 1

    def pass_turns(self, many):
        if not is_count(many, 0, 100):
            raise Refused("NoTurn", many)
        return [self.pass_turn() for turn in range(many)]

    def now(self):
        return self.turn

    def waiting(self):
        return order(self.claims_now(), self.turn)

    def held(self):
        return [(number, self.pieces[number]["sort"], self.pieces[number]["came"]) for number in self.words("held")]

    def rows_done(self):
        return [(turn, list(worked)) for turn, worked in self.rows]

    def state(self, number):
        if not is_count(number, 0, len(self.pieces) - 1):
            raise Refused("NoPiece", number)
        piece = self.pieces[number]
        return (piece["word"], piece["sort"], piece["came"], piece["tries"], piece["spent"], list(piece["told"]))

    def comers_until(self, number):
        self.check_piece(number, "waiting")
        claim = self.claim(number)
        until = self.latest(number)
        for came in range(until, self.turn - 1, -1):
            for name, (weight, speed, span, tries) in self.sorts.items():
                comer = (None, weight, speed, came)
                if any(parts_at(comer, turn) > parts_at(claim, turn) for turn in range(came, until + 1)):
                    return (came, name)
        return None


NUMBER = "(?:0|[1-9][0-9]{0,15})"
NAME = "[a-z]{1,8}"
WEIGHT = "[0-9]{1,20}(?:/[0-9]{1,20})?"
LINES = [
    f"house {NUMBER}(?: {NAME}:{WEIGHT}:{WEIGHT}:{NUMBER}:{NUMBER})+",
    f"come {NAME}", f"hold {NAME} {NUMBER}", f"change {NUMBER} {NAME}", f"speed {NAME} {WEIGHT}", f"fewer {NUMBER}",
    f"(?:tell|off|turns|state|last|order) {NUMBER}", f"changes {NUMBER} {NUMBER}",
    f"pass(?: {NUMBER}(?: {NUMBER}:(?:done|failed))*)?",
    "now|waiting|held|told|run|done|next|ever",
]


def plain_weight(text):
    """The weight of a text of figures, perhaps with a stroke: None where it isn't written as weights are."""
    top, stroke, bottom = text.partition("/")
    weight = (int(top), int(bottom or 1))
    if not is_weight(weight) or in_lowest(weight) != weight:
        return None
    return weight if text == (str(weight[0]) if weight[1] == 1 else "/".join(map(str, weight))) else None


def is_line(line):
    if type(line) is not str or not any(re.fullmatch(form, line) for form in LINES):
        return False
    words = line.split(" ")
    weights = [part for word in words[2:] for part in word.split(":")[1:3]] if words[0] == "house" else []
    weights += words[2:] if words[0] == "speed" else []
    ends = [word.split(":")[0] for word in words[2:]] if words[0] == "pass" else []
    return len(set(ends)) == len(ends) and None not in [plain_weight(text) for text in weights]


def spaced(things):
    return " ".join(str(thing) for thing in things) or "-"


def parted(rows):
    return "; ".join(rows) or "-"


def row_line(row):
    return str(row[0]) + ":" + ("".join(" " + str(number) for number in row[1]) or " -")


def verdict_line(verdict):
    if verdict[0] == "late":
        return "late " + str(verdict[1]) + " told " + str(verdict[2]) + " over " + str(verdict[3])
    return "granted" + ("" if verdict[1] is None else " " + str(verdict[1]))


class PlainDesk:
    def __init__(self):
        self.house = None

    def say(self, line):
        if not is_line(line) or (self.house is None and not line.startswith("house ")):
            raise Refused("NoLine")
        word, *words = line.split(" ")
        if word == "house":
            parts = [text.split(":") for text in words[1:]]
            rows = [
                (name, plain_weight(weight), plain_weight(speed), int(span), int(tries))
                for name, weight, speed, span, tries in parts
            ]
            self.house = PlainHouse(rows, int(words[0]))
            return "ok"
        things = [int(text) if text.isdigit() else text for text in words]
        if word in ("come", "hold", "change", "speed", "fewer"):
            return self.verdict(word, words, things)
        if word in ("tell", "off", "pass", "turns"):
            return self.done(word, words, things)
        if word in ("order", "next", "changes", "ever"):
            return self.ordered(word, things)
        return self.asked(word, things)

    def verdict(self, word, words, things):
        if word == "speed":
            return verdict_line(self.house.change_speed(words[0], plain_weight(words[1])))
        return verdict_line(getattr(self.house, word)(*things))

    def done(self, word, words, things):
        if word == "tell":
            return str(self.house.tell(things[0]))
        if word == "off":
            self.house.call_off(things[0])
            return "ok"
        if word == "turns":
            return parted([row_line(row) for row in self.house.pass_turns(things[0])])
        ends = {int(text.split(":")[0]): text.split(":")[1] for text in words[1:]}
        return row_line(self.house.pass_turn(ends, (things + [0])[0]))

    def ordered(self, word, things):
        claims = self.house.claims_now()
        if word == "order":
            return spaced(order(claims, things[0]))
        if word == "ever":
            return spaced([claim[0] for claim in sorted(claims, key=lambda claim: place_at(claim, FAR))])
        if word == "changes":
            order(claims, things[0])
            if not is_count(things[1], things[0], 10 ** 15):
                raise Refused("NoTurn", things[1])
            return parted([spaced(row) for row in passings(claims, things[0]) if row[0] <= things[1]])
        found = passings(claims, self.house.turn)
        if not found:
            return "-"
        return str(found[0][0]) + ": " + parted([spaced(row[1:]) for row in found if row[0] == found[0][0]])

    def asked(self, word, things):
        house = self.house
        if word == "last":
            comer = house.comers_until(things[0])
            return "-" if comer is None else spaced(comer)
        if word == "state":
            state = house.state(things[0])
            return " ".join(str(part) for part in state[:5]) + ": " + spaced(state[5])
        if word == "now":
            return str(house.turn)
        if word == "waiting":
            return spaced(house.waiting())
        if word == "held":
            return parted([spaced(place) for place in house.held()])
        if word == "told":
            return parted([spaced(pair) for pair in sorted(house.told_now().items())])
        return parted([row_line(row) for row in (house.worst_run() if word == "run" else house.rows)])
