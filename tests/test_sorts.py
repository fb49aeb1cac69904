"""Sorts: points 2, 5, 6, 7, 41 and 42."""

import copy
import itertools
import unittest

from greywait.errors import NoSort, NoSorts, NoWeight
from greywait.sorts import Sort, Sorts

MOST_TOP = 1000000

GREY = ("grey", (3, 2), (1, 3), 2, 3)
BLUE = ("blue", (0, 1), (5, 1), 4, 1)
RED = ("red", (7, 12), (0, 1), 1, 2)

NO_NAMES = [
    0, 1, -1, 10 ** 99, True, False, None, "", "Grey", "grey ", "gre", "greys", "abcdefghi", [], ["grey"], (),
    ("grey",), GREY, {}, {"grey": 1}, [[1], {}],
]
NO_WEIGHTS = [
    0, 1, 10 ** 99, True, False, None, "", "1/2", [], [1, 2], {}, {1: 2}, (), (1,), (1, 2, 3), (1, 0), (1, 13),
    (-1, 2), (MOST_TOP + 1, 1), (10 ** 99, 1), (1, 10 ** 99), (True, 2), (1, True), (None, 1), ("1", "2"), ([1], 2),
    ((1, 2), (1, 2)),
]
NO_COUNTS = [-1, 0, 10 ** 99, True, False, None, "", "1", [], [1], (), (1,), {}, {1: 1}]


def values_of(sort):
    return (sort.name, sort.weight, sort.speed, sort.span, sort.tries)


def many_rows(many):
    return [("a" * (place + 1), (place, 1), (1, place + 1), place % 4 + 1, place % 3 + 1) for place in range(many)]


def with_value(row, place, thing):
    return row[:place] + (thing,) + row[place + 1:]


class SortsCase(unittest.TestCase):
    def refused(self, thing):
        with self.subTest(thing=thing):
            before = copy.deepcopy(thing)
            with self.assertRaises(NoSorts) as caught:
                Sorts(thing)
            self.assertIs(type(caught.exception), NoSorts)
            self.assertEqual(thing, before)

    def told(self, rows, known):
        with self.subTest(rows=rows):
            sorts = Sorts(rows)
            self.assertEqual(sorts.rows_told(), known)
            self.assertEqual(sorts.sort_names(), [row[0] for row in known])
            for row in known:
                self.assertEqual(values_of(sorts.sort_of(row[0])), row)


class TestMade(SortsCase):
    def test_ordinary_ones(self):
        self.told([GREY], [GREY])
        for rows in itertools.permutations([GREY, BLUE, RED]):
            self.told(list(rows), list(rows))

    def test_one_to_eight(self):
        for many in range(1, 9):
            self.told(many_rows(many), many_rows(many))

    def test_none_and_nine(self):
        self.refused([])
        self.refused(many_rows(8) + [GREY])
        self.refused(many_rows(8) + [("b", (1, 1), (1, 1), 1, 1)])

    def test_lowest_terms(self):
        self.told([("a", (6, 4), (4, 2), 1, 1)], [("a", (3, 2), (2, 1), 1, 1)])
        self.told([("a", (0, 12), (12, 12), 1, 1)], [("a", (0, 1), (1, 1), 1, 1)])
        self.told([("a", (MOST_TOP, 12), (MOST_TOP, 2), 1, 1)], [("a", (250000, 3), (500000, 1), 1, 1)])

    def test_weights_and_speeds_at_their_bounds(self):
        for weight, speed in itertools.product(((0, 1), (1, 12), (MOST_TOP, 1), (MOST_TOP, 11)), repeat=2):
            self.told([("a", weight, speed, 1, 1)], [("a", weight, speed, 1, 1)])

    def test_each_span_and_number_of_tries(self):
        for span, tries in itertools.product((1, 2, 3, 4), (1, 2, 3)):
            self.told([with_value(with_value(GREY, 3, span), 4, tries)], [GREY[:3] + (span, tries)])

    def test_names_at_their_bounds(self):
        for name in ("a", "z", "abcdefgh", "zzzzzzzz"):
            self.told([with_value(GREY, 0, name)], [with_value(GREY, 0, name)])

    def test_two_sorts_may_be_alike_but_for_their_names(self):
        rows = [with_value(GREY, 0, name) for name in ("b", "a", "aa")]
        self.told(rows, rows)


class TestRefused(SortsCase):
    def test_what_is_no_list(self):
        for thing in (0, 1, 10 ** 99, True, False, None, "", "grey", (), (GREY,), (GREY, BLUE), GREY, {},
                      {"grey": GREY}, {GREY: True}):
            self.refused(thing)

    def test_two_of_one_name(self):
        self.refused([GREY, GREY])
        self.refused([GREY, BLUE, with_value(RED, 0, "grey")])
        self.refused(many_rows(7) + [with_value(GREY, 0, "a")])

    def test_what_is_no_row(self):
        for thing in (0, 10 ** 99, True, None, "", "grey", "abcde", [], list(GREY), (), {}, dict.fromkeys("abcde", 1),
                      GREY[:4], GREY + (1,), GREY[1:], (GREY,)):
            self.refused([thing])
            self.refused([BLUE, thing])
            self.refused([thing, BLUE])

    def test_what_is_no_name(self):
        for thing in (0, 7, 10 ** 99, True, None, "", "Grey", "a b", "grey1", "grey\n", "abcdefghi", [], ["a"], ("a",),
                      {}, {"a": 1}):
            self.refused([with_value(GREY, 0, thing)])
            self.refused([BLUE, with_value(GREY, 0, thing)])

    def test_what_is_no_weight_and_no_speed(self):
        for thing in NO_WEIGHTS:
            self.refused([with_value(GREY, 1, thing)])
            self.refused([with_value(GREY, 2, thing)])
            self.refused([BLUE, with_value(GREY, 2, thing)])

    def test_what_is_no_span(self):
        for thing in NO_COUNTS + [5]:
            self.refused([with_value(GREY, 3, thing)])
            self.refused([BLUE, with_value(GREY, 3, thing)])

    def test_what_is_no_number_of_tries(self):
        for thing in NO_COUNTS + [4]:
            self.refused([with_value(GREY, 4, thing)])
            self.refused([BLUE, with_value(GREY, 4, thing)])


class TestSortOf(SortsCase):
    def test_it_is_a_sort_with_its_five_values(self):
        sorts = Sorts([GREY, BLUE])
        for row in (GREY, BLUE):
            sort = sorts.sort_of(row[0])
            self.assertIs(type(sort), Sort)
            self.assertEqual(values_of(sort), row)

    def test_refused_of_any_thing_that_is_none_of_the_names(self):
        sorts = Sorts([GREY, BLUE])
        for thing in NO_NAMES + ["red"]:
            with self.subTest(thing=thing):
                with self.assertRaises(NoSort) as caught:
                    sorts.sort_of(thing)
                self.assertIs(type(caught.exception), NoSort)
                self.assertIs(caught.exception.name, thing)

    def test_a_sort_is_made_of_its_values(self):
        self.assertEqual(values_of(Sort("grey", (3, 2), (1, 3), 2, 3)), GREY)
        self.assertEqual(values_of(Sort("grey", (6, 4), (2, 6), 2, 3)), GREY)


class TestWithSpeed(SortsCase):
    def test_alike_but_for_the_speed_of_one(self):
        sorts = Sorts([GREY, BLUE, RED])
        other = sorts.with_speed("blue", (2, 7))
        self.assertIs(type(other), Sorts)
        self.assertEqual(other.rows_told(), [GREY, with_value(BLUE, 2, (2, 7)), RED])
        self.assertEqual(other.sort_names(), ["grey", "blue", "red"])
        self.assertEqual(other.sort_of("blue").speed, (2, 7))

    def test_each_place(self):
        rows = many_rows(8)
        for place, row in enumerate(rows):
            known = rows[:place] + [with_value(row, 2, (9, 5))] + rows[place + 1:]
            self.assertEqual(Sorts(rows).with_speed(row[0], (9, 5)).rows_told(), known)

    def test_the_sorts_stay_as_they_were(self):
        sorts = Sorts([GREY, BLUE])
        other = sorts.with_speed("grey", (2, 7))
        self.assertIsNot(other, sorts)
        self.assertEqual(sorts.rows_told(), [GREY, BLUE])
        other.with_speed("grey", (9, 1)).with_speed("blue", (9, 1))
        self.assertEqual(other.rows_told(), [with_value(GREY, 2, (2, 7)), BLUE])
        self.assertEqual(sorts.rows_told(), [GREY, BLUE])

    def test_the_same_speed(self):
        sorts = Sorts([GREY, BLUE])
        other = sorts.with_speed("grey", GREY[2])
        self.assertIsNot(other, sorts)
        self.assertEqual(other.rows_told(), [GREY, BLUE])

    def test_lowest_terms_and_bounds(self):
        for speed, known in (((6, 4), (3, 2)), ((0, 12), (0, 1)), ((MOST_TOP, 12), (250000, 3)), ((1, 12), (1, 12)),
                             ((MOST_TOP, 1), (MOST_TOP, 1))):
            self.assertEqual(Sorts([GREY]).with_speed("grey", speed).sort_of("grey").speed, known)

    def test_refused_first_of_what_is_none_of_the_names(self):
        sorts = Sorts([GREY, BLUE])
        for thing, speed in itertools.product(NO_NAMES + ["red"], [(1, 2)] + NO_WEIGHTS):
            with self.assertRaises(NoSort) as caught:
                sorts.with_speed(thing, speed)
            self.assertIs(caught.exception.name, thing)
        self.assertEqual(sorts.rows_told(), [GREY, BLUE])

    def test_refused_then_of_what_is_no_speed(self):
        sorts = Sorts([GREY, BLUE])
        for name, thing in itertools.product(("grey", "blue"), NO_WEIGHTS):
            with self.subTest(name=name, thing=thing):
                with self.assertRaises(NoWeight) as caught:
                    sorts.with_speed(name, thing)
                self.assertIs(type(caught.exception), NoWeight)
        self.assertEqual(sorts.rows_told(), [GREY, BLUE])


class TestNothingIsChanged(SortsCase):
    def test_what_is_handed_in_stays(self):
        rows = [("a", (6, 4), (4, 2), 1, 1), BLUE]
        Sorts(rows).with_speed("a", (2, 2))
        self.assertEqual(rows, [("a", (6, 4), (4, 2), 1, 1), BLUE])

    def test_what_is_done_to_what_was_handed_in_changes_nothing(self):
        rows = [GREY, BLUE]
        sorts = Sorts(rows)
        rows[0] = RED
        rows.append(GREY)
        self.assertEqual(sorts.rows_told(), [GREY, BLUE])
        self.assertEqual(sorts.sort_names(), ["grey", "blue"])

    def test_what_is_told_is_the_askers_own(self):
        sorts = Sorts([GREY, BLUE])
        sorts.sort_names().clear()
        sorts.rows_told().append(RED)
        rows = sorts.rows_told()
        rows[0] = RED
        self.assertEqual(sorts.sort_names(), ["grey", "blue"])
        self.assertEqual(sorts.rows_told(), [GREY, BLUE])
        self.assertIsNot(sorts.sort_names(), sorts.sort_names())
        self.assertIsNot(sorts.rows_told(), sorts.rows_told())

    def test_equal_questions_have_equal_answers(self):
        one, other = Sorts([GREY, BLUE]), Sorts([with_value(GREY, 1, (6, 4)), BLUE])
        self.assertEqual(one, other)
        self.assertEqual(one.sort_of("grey"), one.sort_of("grey"))
        self.assertEqual(one.sort_of("grey"), other.sort_of("grey"))
        self.assertEqual(one.with_speed("blue", (2, 3)), other.with_speed("blue", (4, 6)))

    def test_unlike_sorts_are_not_equal(self):
        sorts = Sorts([GREY, BLUE])
        for other in (Sorts([BLUE, GREY]), Sorts([GREY]), sorts.with_speed("grey", (9, 1)), [GREY, BLUE], None):
            self.assertNotEqual(sorts, other)
        for place, thing in enumerate(("gray", (9, 1), (9, 1), 1, 1)):
            other = Sorts([with_value(GREY, place, thing)])
            self.assertNotEqual(sorts.sort_of("grey"), other.sort_of(other.sort_names()[0]))
        self.assertNotEqual(sorts.sort_of("grey"), GREY)

    def test_two_objects_have_nothing_in_common(self):
        one, other = Sorts([GREY]), Sorts([BLUE])
        self.assertEqual((one.rows_told(), other.rows_told()), ([GREY], [BLUE]))


if __name__ == "__main__":
    unittest.main()
