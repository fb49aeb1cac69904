"""The refusals: point 7, and the interface under greywait/errors.py."""

import unittest

from greywait import errors

FIELDS = {
    "NoWeight": [],
    "NoName": ["name"],
    "NoSorts": [],
    "NoSort": ["name"],
    "NoHands": ["hands"],
    "NoTurn": ["turn"],
    "NoPiece": ["number"],
    "Over": ["number"],
    "TooMany": [],
    "NoEnd": ["number"],
    "NoLine": [],
}

THINGS = [
    0, 7, -1, 10 ** 99, "", "grey", True, False, None, [], [1, [2]], (), (1, "a"), {}, {"a": [1], 2: None},
]


def class_of(name):
    return getattr(errors, name)


class TestClasses(unittest.TestCase):
    def test_wait_error_stands_under_value_error(self):
        self.assertEqual(errors.WaitError.__bases__, (ValueError,))

    def test_each_stands_straight_under_wait_error(self):
        for name in FIELDS:
            with self.subTest(name):
                self.assertEqual(class_of(name).__bases__, (errors.WaitError,))

    def test_none_stands_under_another_one(self):
        for one in FIELDS:
            for other in FIELDS:
                with self.subTest(one=one, other=other):
                    self.assertEqual(issubclass(class_of(one), class_of(other)), one == other)

    def test_there_are_eleven_of_them_and_no_more(self):
        found = [
            name for name, thing in vars(errors).items()
            if isinstance(thing, type) and issubclass(thing, errors.WaitError)
        ]
        self.assertEqual(sorted(found), sorted(list(FIELDS) + ["WaitError"]))
        self.assertEqual(len(FIELDS), 11)


class TestFields(unittest.TestCase):
    def test_without_fields_it_is_made_of_nothing(self):
        for name, fields in FIELDS.items():
            if not fields:
                with self.subTest(name):
                    self.assertIsInstance(class_of(name)(), errors.WaitError)
                    self.assertEqual(vars(class_of(name)()), {})

    def test_a_field_is_the_very_thing(self):
        for name, fields in FIELDS.items():
            for field in fields:
                for thing in THINGS:
                    with self.subTest(name=name, thing=thing):
                        error = class_of(name)(thing)
                        self.assertIs(getattr(error, field), thing)
                        self.assertEqual(list(vars(error)), [field])

    def test_a_field_is_not_changed(self):
        for name, fields in FIELDS.items():
            if fields:
                thing = [1, {"a": [2]}, (3,)]
                class_of(name)(thing)
                self.assertEqual(thing, [1, {"a": [2]}, (3,)])

    def test_two_of_one_class_have_nothing_in_common(self):
        one = errors.NoTurn(1)
        other = errors.NoTurn(2)
        self.assertEqual((one.turn, other.turn), (1, 2))

    def test_it_is_raised_and_taken_as_any_refusal(self):
        for name, fields in FIELDS.items():
            for base in (class_of(name), errors.WaitError, ValueError):
                with self.subTest(name=name, base=base):
                    with self.assertRaises(base) as caught:
                        raise class_of(name)(*["thing" for field in fields])
                    for field in fields:
                        self.assertEqual(getattr(caught.exception, field), "thing")


if __name__ == "__main__":
    unittest.main()
