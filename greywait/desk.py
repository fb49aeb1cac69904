"""A desk of lines: each does something at a house, or asks something of it [101] [102] [103] [104]."""

from greywait.errors import NoLine
from greywait.house import House
from greywait.lines import line_read, numbers_text, parted_text, row_text, rows_text, verdict_text
from greywait.orders import changes, for_ever, next_change, order_at


def come_answer(house, things):
    return verdict_text(house.come(things[0]))


def hold_answer(house, things):
    return verdict_text(house.hold(things[0], things[1]))


def change_answer(house, things):
    return verdict_text(house.change(things[0], things[1]))


def speed_answer(house, things):
    return verdict_text(house.change_speed(things[0], things[1]))


def fewer_answer(house, things):
    return verdict_text(house.fewer(things[0]))


def tell_answer(house, things):
    return str(house.tell(things[0]))


def off_answer(house, things):
    house.call_off(things[0])
    return "ok"


def pass_answer(house, things):
    more = things[0] if len(things) > 0 else 0
    return row_text(house.pass_turn(dict(things[1:]), more))


def turns_answer(house, things):
    return rows_text(house.pass_turns(things[0]))


def now_answer(house, things):
    return str(house.now())


def waiting_answer(house, things):
    return numbers_text(house.waiting())


def held_answer(house, things):
    return parted_text([f"{number} {name} {turn}" for number, name, turn in house.held()])


def told_answer(house, things):
    return parted_text([numbers_text(pair) for pair in sorted(house.told_now().items())])


def run_answer(house, things):
    return rows_text(house.worst_run())


def done_answer(house, things):
    return rows_text(house.rows_done())


def state_answer(house, things):
    state = house.state(things[0])
    front = " ".join([str(part) for part in state[:5]])
    numbers = numbers_text(state[5])
    return f"{front}: {numbers}"


def last_answer(house, things):
    comer = house.comers_until(things[0])
    if comer is None:
        return "-"
    turn = comer[0]
    name = comer[1]
    return f"{turn} {name}"


def order_answer(house, things):
    return numbers_text(order_at(house.claims_now(), things[0]))


def next_answer(house, things):
    change = next_change(house.claims_now(), house.now())
    if change is None:
        return "-"
    turn = change[0]
    pairs = parted_text([numbers_text(pair) for pair in change[1]])
    return f"{turn}: {pairs}"


def changes_answer(house, things):
    return parted_text([numbers_text(row) for row in changes(house.claims_now(), things[0], things[1])])


def ever_answer(house, things):
    return numbers_text(for_ever(house.claims_now()))


ANSWERS = {
    "come": come_answer,
    "hold": hold_answer,
    "change": change_answer,
    "speed": speed_answer,
    "fewer": fewer_answer,
    "tell": tell_answer,
    "off": off_answer,
    "pass": pass_answer,
    "turns": turns_answer,
    "now": now_answer,
    "waiting": waiting_answer,
    "held": held_answer,
    "told": told_answer,
    "run": run_answer,
    "done": done_answer,
    "state": state_answer,
    "last": last_answer,
    "order": order_answer,
    "next": next_answer,
    "changes": changes_answer,
    "ever": ever_answer,
}


class Desk:
    def __init__(self):
        self.house = None

    def say(self, line):
        read = line_read(line)
        if read is None or (self.house is None and read[0] != "house"):
            raise NoLine()
        word = read[0]
        things = read[1]
        if word == "house":
            self.house = House(things[1:], things[0])
            return "ok"
        return ANSWERS[word](self.house, things)
