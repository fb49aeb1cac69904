"""Pieces, their deeds, claims and chores: points 2, 4, 6, 7, 43, 44 and 45."""

import copy
import itertools
import unittest

from greywait.errors import NoSort, Over
from greywait.pieces import CalledOff, Done, GivenUp, Held, Missed, Piece, Waiting, chore_of, claim_of
from greywait.sorts import Sorts

LONG_NUMBER = 10 ** 40 - 1
MOST_TURN = 10 ** 15

KINDS = {
    "held": Held, "waiting": Waiting, "done": Done, "given up": GivenUp, "called off": CalledOff, "missed": Missed,
}
OPEN = ("held", "waiting")
DEEDS = {
    "taken": ("held",),
    "missed": ("held",),
    "stepped": ("waiting",),
    "failed": ("waiting",),
    "done": ("waiting",),
    "called_off": ("held", "waiting"),
    "resorted": ("held", "waiting"),
}

ROWS = [("grey", (6, 4), (2, 6), 2, 3), ("blue", (0, 1), (5, 1), 4, 1)]


def values_of(piece):
    return (piece.number, piece.sort_name, piece.came, piece.span, piece.tries, piece.spent)


def all_values():
    for span, tries in itertools.product((1, 2, 3, 4), (1, 2, 3)):
        for spent in range(span):
            yield (7, "grey", 5, span, tries, spent)


def did(piece, deed):
    if deed == "resorted":
        return piece.resorted("blue")
    return getattr(piece, deed)()


class PiecesCase(unittest.TestCase):
    def told(self, piece, word, values):
        with self.subTest(word=word, values=values):
            self.assertIs(type(piece), KINDS[word])
            self.assertEqual(piece.word(), word)
            self.assertEqual(values_of(piece), values)
            self.assertEqual(piece.row(), (word, values[1], values[2], values[4], values[5]))


class TestKinds(PiecesCase):
    def test_each_stands_straight_under_piece(self):
        for word, kind in KINDS.items():
            self.assertEqual(kind.__bases__, (Piece,))

    def test_each_has_its_word_its_values_and_its_row(self):
        for word, values in itertools.product(KINDS, all_values()):
            self.told(KINDS[word](*values), word, values)

    def test_spent_is_nought_where_it_is_not_told(self):
        for word, kind in KINDS.items():
            self.told(kind(0, "a", 0, 4, 3), word, (0, "a", 0, 4, 3, 0))

    def test_values_by_their_names(self):
        piece = Waiting(number=3, sort_name="blue", came=9, span=4, tries=2, spent=1)
        self.told(piece, "waiting", (3, "blue", 9, 4, 2, 1))

    def test_bounds(self):
        for word, kind in KINDS.items():
            values = (LONG_NUMBER, "abcdefgh", MOST_TURN, 4, 3, 3)
            self.told(kind(*values), word, values)

    def test_rows_are_tuples(self):
        self.assertEqual(Held(1, "grey", 5, 2, 3).row(), ("held", "grey", 5, 3, 0))
        self.assertIs(type(Held(1, "grey", 5, 2, 3).row()), tuple)

    def test_held_and_waiting_ones_are_open(self):
        for word, kind in KINDS.items():
            self.assertIs(kind(1, "grey", 5, 2, 3).is_open(), word in OPEN)

    def test_what_work_is_left_of_an_open_one(self):
        for word, values in itertools.product(OPEN, all_values()):
            self.assertEqual(KINDS[word](*values).work_left(), values[4] * values[3] - values[5])
        self.assertEqual(Waiting(1, "grey", 5, 4, 3).work_left(), 12)
        self.assertEqual(Waiting(1, "grey", 5, 4, 1, 3).work_left(), 1)
        self.assertEqual(Held(1, "grey", 5, 1, 1).work_left(), 1)

    def test_no_work_is_left_of_another_one(self):
        for word, values in itertools.product(KINDS, all_values()):
            if word not in OPEN:
                self.assertEqual(KINDS[word](*values).work_left(), 0)


class TestDeeds(PiecesCase):
    def test_taken(self):
        for values in all_values():
            self.told(Held(*values).taken(), "waiting", values)

    def test_missed(self):
        for values in all_values():
            self.told(Held(*values).missed(), "missed", values)

    def test_stepped_in_the_midst_of_a_try(self):
        for values in all_values():
            if values[5] + 1 < values[3]:
                self.told(Waiting(*values).stepped(), "waiting", values[:5] + (values[5] + 1,))

    def test_stepped_at_the_last_turn_of_a_try(self):
        for span in (1, 2, 3, 4):
            for tries in (2, 3):
                piece = Waiting(7, "grey", 5, span, tries, span - 1)
                self.told(piece.stepped(), "waiting", (7, "grey", 5, span, tries - 1, 0))

    def test_stepped_at_the_last_turn_of_the_last_try(self):
        for span in (1, 2, 3, 4):
            piece = Waiting(7, "grey", 5, span, 1, span - 1)
            self.told(piece.stepped(), "given up", (7, "grey", 5, span, 0, 0))

    def test_failed_whatever_is_spent(self):
        for values in all_values():
            word = "waiting" if values[4] > 1 else "given up"
            self.told(Waiting(*values).failed(), word, values[:4] + (values[4] - 1, 0))

    def test_done(self):
        for values in all_values():
            self.told(Waiting(*values).done(), "done", values)

    def test_called_off(self):
        for values in all_values():
            self.told(Held(*values).called_off(), "called off", values)
            self.told(Waiting(*values).called_off(), "called off", values)

    def test_resorted_by_any_text(self):
        for name in ("blue", "grey", "a", "abcdefgh", "", "No name", "abcdefghijkl", "7"):
            for word, values in itertools.product(OPEN, all_values()):
                self.told(KINDS[word](*values).resorted(name), word, values[:1] + (name,) + values[2:])

    def test_stepped_until_it_is_given_up(self):
        for span, tries in itertools.product((1, 2, 3, 4), (1, 2, 3)):
            piece = Held(7, "grey", 5, span, tries).taken()
            for left in range(span * tries, 0, -1):
                self.assertEqual((piece.word(), piece.work_left()), ("waiting", left))
                piece = piece.stepped()
            self.told(piece, "given up", (7, "grey", 5, span, 0, 0))

    def test_a_deed_of_each_piece_is_told_or_refused(self):
        for word, deed, values in itertools.product(KINDS, DEEDS, all_values()):
            with self.subTest(word=word, deed=deed, values=values):
                piece = KINDS[word](*values)
                if word in DEEDS[deed]:
                    self.assertIsInstance(did(piece, deed), Piece)
                else:
                    with self.assertRaises(Over) as caught:
                        did(piece, deed)
                    self.assertIs(type(caught.exception), Over)
                    self.assertEqual(caught.exception.number, 7)

    def test_refused_with_the_number_of_the_piece(self):
        for number in (0, 1, LONG_NUMBER):
            for deed in DEEDS:
                with self.assertRaises(Over) as caught:
                    did(GivenUp(number, "grey", 5, 2, 0), deed)
                self.assertEqual(caught.exception.number, number)


class TestNeverChanged(PiecesCase):
    def test_a_deed_tells_another_piece_and_leaves_this_one(self):
        for word, deed, values in itertools.product(KINDS, DEEDS, all_values()):
            piece = KINDS[word](*values)
            if word in DEEDS[deed]:
                self.assertIsNot(did(piece, deed), piece)
            else:
                with self.assertRaises(Over):
                    did(piece, deed)
            self.told(piece, word, values)

    def test_resorted_by_its_own_name_it_is_another_one(self):
        piece = Waiting(7, "grey", 5, 4, 3, 2)
        self.assertIsNot(piece.resorted("grey"), piece)
        self.told(piece.resorted("grey"), "waiting", (7, "grey", 5, 4, 3, 2))

    def test_equal_questions_have_equal_answers(self):
        for word, deeds in (("held", ("taken", "missed", "called_off", "resorted")),
                            ("waiting", ("stepped", "failed", "done", "called_off", "resorted"))):
            for deed, values in itertools.product(deeds, all_values()):
                piece, other = KINDS[word](*values), KINDS[word](*values)
                self.assertEqual(piece, other)
                self.assertEqual(did(piece, deed), did(piece, deed))
                self.assertEqual(did(piece, deed), did(other, deed))

    def test_unlike_pieces_are_not_equal(self):
        values = (7, "grey", 5, 4, 3, 2)
        for word, other in itertools.permutations(KINDS, 2):
            self.assertNotEqual(KINDS[word](*values), KINDS[other](*values))
        for place, thing in enumerate((8, "blue", 6, 3, 2, 1)):
            self.assertNotEqual(Held(*values), Held(*(values[:place] + (thing,) + values[place + 1:])))
        for thing in (Held(*values).row(), values, 7, None, "held"):
            self.assertNotEqual(Held(*values), thing)

    def test_two_pieces_have_nothing_in_common(self):
        one, other = Waiting(1, "grey", 5, 4, 3, 2), Waiting(2, "blue", 6, 3, 2, 1)
        self.assertEqual(values_of(one), (1, "grey", 5, 4, 3, 2))
        self.assertEqual(values_of(other), (2, "blue", 6, 3, 2, 1))


class TestClaimsAndChores(PiecesCase):
    def test_a_claim_has_the_weight_and_the_speed_of_the_sort(self):
        sorts = Sorts(ROWS)
        for word, kind in KINDS.items():
            self.assertEqual(claim_of(kind(7, "grey", 5, 2, 3), sorts), (7, (3, 2), (1, 3), 5))
            self.assertEqual(claim_of(kind(0, "blue", 0, 4, 1), sorts), (0, (0, 1), (5, 1), 0))

    def test_a_chore_has_the_claim_and_what_is_left(self):
        sorts = Sorts(ROWS)
        for word, values in itertools.product(KINDS, all_values()):
            left = values[4] * values[3] - values[5] if word in OPEN else 0
            self.assertEqual(chore_of(KINDS[word](*values), sorts), ((7, (3, 2), (1, 3), 5), left))

    def test_both_are_tuples(self):
        piece, sorts = Waiting(7, "grey", 5, 2, 3), Sorts(ROWS)
        for answer in (claim_of(piece, sorts), chore_of(piece, sorts), chore_of(piece, sorts)[0]):
            self.assertIs(type(answer), tuple)

    def test_the_span_and_the_tries_are_the_pieces_own(self):
        piece = Waiting(7, "grey", 5, 2, 3, 1).resorted("blue")
        self.assertEqual(chore_of(piece, Sorts(ROWS)), ((7, (0, 1), (5, 1), 5), 5))

    def test_the_speed_is_that_of_the_sorts_that_are_handed_in(self):
        sorts = Sorts(ROWS)
        piece = Waiting(7, "grey", 5, 2, 3)
        other = sorts.with_speed("grey", (9, 6))
        self.assertEqual(claim_of(piece, other), (7, (3, 2), (3, 2), 5))
        self.assertEqual(claim_of(piece, sorts), (7, (3, 2), (1, 3), 5))

    def test_bounds(self):
        sorts = Sorts([("a", (1000000, 11), (1, 12), 4, 3)])
        piece = Held(LONG_NUMBER, "a", MOST_TURN, 4, 3)
        self.assertEqual(chore_of(piece, sorts), ((LONG_NUMBER, (1000000, 11), (1, 12), MOST_TURN), 12))

    def test_refused_where_the_sorts_have_no_such_name(self):
        sorts = Sorts(ROWS)
        for word, name in itertools.product(KINDS, ("red", "gre", "greys", "", "Grey", "No name", "abcdefghijkl")):
            for asked in (claim_of, chore_of):
                with self.subTest(word=word, name=name, asked=asked):
                    with self.assertRaises(NoSort) as caught:
                        asked(KINDS[word](7, name, 5, 2, 3), sorts)
                    self.assertIs(type(caught.exception), NoSort)
                    self.assertEqual(caught.exception.name, name)

    def test_what_is_handed_in_stays(self):
        sorts, piece = Sorts(ROWS), Waiting(7, "grey", 5, 2, 3, 1)
        before = copy.deepcopy(vars(piece)), sorts.rows_told()
        answers = [(claim_of(piece, sorts), chore_of(piece, sorts)) for again in range(2)]
        self.assertEqual((vars(piece), sorts.rows_told()), before)
        self.assertEqual(answers[0], answers[1])


if __name__ == "__main__":
    unittest.main()
