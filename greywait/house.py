"""A house: who comes, what is asked of it, turns that pass, and what it tells [91] to [98]."""

from greywait.comers import last_comer
from greywait.errors import NoEnd, NoHands, NoPiece, NoTurn, Over, TooMany
from greywait.latest import kept_all, latest_of
from greywait.orders import order_at
from greywait.pieces import Held, Waiting, chore_of, claim_of
from greywait.runs import run_of
from greywait.sorts import Sorts
from greywait.verdicts import Granted, LateOne, own_rows
from greywait.words import is_whole

MOST_HANDS = 6
MOST_HELPERS = 6
MOST_OPEN = 40
MOST_TURNS_TO_HOLD = 400
MOST_TURNS_TO_PASS = 100


def chores_of(pieces, sorts):
    return [chore_of(piece, sorts) for piece in pieces if piece.is_open()]


def with_piece(pieces, changed):
    return [changed if piece.number == changed.number else piece for piece in pieces]


def check_ends(ends, numbers):
    for number in ends:
        # A truth equals 0 or 1 for Python, so it is not enough to look for the number in the list.
        if not any([is_whole(number, known, known) for known in numbers]):
            raise NoEnd(number)
        if ends[number] not in ("done", "failed"):
            raise NoEnd(number)


def piece_behind(piece, turn, numbers, ends):
    if isinstance(piece, Held) and piece.came == turn:
        return piece.missed()
    if piece.number not in numbers:
        return piece
    end = ends.get(piece.number)
    if end == "done":
        return piece.done()
    return piece.failed() if end == "failed" else piece.stepped()


class House:
    def __init__(self, sorts, hands):
        self.sorts = Sorts(sorts)
        if not is_whole(hands, 1, MOST_HANDS):
            raise NoHands(hands)
        self.hands = hands
        self.turn = 0
        # A piece's number is its place in this list.
        self.pieces = []
        self.numbers = {}
        self.rows = []

    def piece_of(self, number):
        if not is_whole(number, 0, len(self.pieces) - 1):
            raise NoPiece(number)
        return self.pieces[number]

    def waiting_piece(self, number):
        piece = self.piece_of(number)
        if not isinstance(piece, Waiting):
            raise Over(number)
        return piece

    def pieces_waiting(self):
        return [piece for piece in self.pieces if isinstance(piece, Waiting)]

    def places(self):
        return [piece for piece in self.pieces if isinstance(piece, Held)]

    def latest_turn(self, number):
        return latest_of(self.chores_now(), self.hands, self.turn, number)

    def check_room(self):
        if len(self.chores_now()) >= MOST_OPEN:
            raise TooMany()

    def asked(self, pieces, sorts, hands, number):
        late = kept_all(chores_of(pieces, sorts), hands, self.turn, self.told_now())
        if late is not None:
            return LateOne(late[0], late[1], late[2], late[3])
        self.pieces = pieces
        self.sorts = sorts
        self.hands = hands
        return Granted(number)

    def asked_with(self, piece):
        self.check_room()
        return self.asked(self.pieces + [piece], self.sorts, self.hands, piece.number)

    def come(self, sort):
        known = self.sorts.sort_of(sort)
        places = [place for place in self.places() if (place.sort_name, place.came) == (sort, self.turn)]
        if len(places) > 0:
            return self.come_to(places[0])
        piece = Waiting(len(self.pieces), known.name, self.turn, known.span, known.tries)
        verdict = self.asked_with(piece)
        if verdict.granted():
            self.tell(piece.number)
        return verdict

    def come_to(self, place):
        self.pieces = with_piece(self.pieces, place.taken())
        self.tell(place.number)
        return Granted(place.number)

    def hold(self, sort, turn):
        known = self.sorts.sort_of(sort)
        if not is_whole(turn, self.turn, self.turn + MOST_TURNS_TO_HOLD):
            raise NoTurn(turn)
        return self.asked_with(Held(len(self.pieces), known.name, turn, known.span, known.tries))

    def change(self, number, sort):
        piece = self.waiting_piece(number)
        changed = piece.resorted(self.sorts.sort_of(sort).name)
        return self.asked(with_piece(self.pieces, changed), self.sorts, self.hands, None)

    def change_speed(self, sort, speed):
        return self.asked(self.pieces, self.sorts.with_speed(sort, speed), self.hands, None)

    def fewer(self, hands):
        if not is_whole(hands, 1, self.hands):
            raise NoHands(hands)
        return self.asked(self.pieces, self.sorts, hands, None)

    def tell(self, number):
        self.waiting_piece(number)
        turn = self.latest_turn(number)
        self.numbers[number] = self.numbers.get(number, []) + [turn]
        return turn

    def call_off(self, number):
        self.pieces = with_piece(self.pieces, self.piece_of(number).called_off())

    def pass_turn(self, ends=None, more=0):
        if not is_whole(more, 0, MOST_HELPERS):
            raise NoHands(more)
        known = {} if ends is None else ends
        numbers = self.waiting()[:self.hands + more]
        check_ends(known, numbers)
        self.pieces = [piece_behind(piece, self.turn, numbers, known) for piece in self.pieces]
        row = (self.turn, numbers)
        self.rows = self.rows + own_rows([row])
        self.turn += 1
        return row

    def pass_turns(self, many):
        if not is_whole(many, 0, MOST_TURNS_TO_PASS):
            raise NoTurn(many)
        return [self.pass_turn() for step in range(many)]

    def now(self):
        return self.turn

    def waiting(self):
        return order_at(self.claims_now(), self.turn)

    def held(self):
        return [(place.number, place.sort_name, place.came) for place in self.places()]

    def claims_now(self):
        return [claim_of(piece, self.sorts) for piece in self.pieces_waiting()]

    def chores_now(self):
        return chores_of(self.pieces, self.sorts)

    def told_now(self):
        return dict([(piece.number, self.numbers[piece.number][-1]) for piece in self.pieces_waiting()])

    def worst_run(self):
        return run_of(self.chores_now(), self.hands, self.turn)

    def rows_done(self):
        return own_rows(self.rows)

    def state(self, number):
        row = self.piece_of(number).row()
        return (row[0], row[1], row[2], row[3], row[4], list(self.numbers.get(number, [])))

    def comers_until(self, number):
        claim = claim_of(self.waiting_piece(number), self.sorts)
        return last_comer(claim, self.sorts, self.turn, self.latest_turn(number))
