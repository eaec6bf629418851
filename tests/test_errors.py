"""The refusals (interface, errors.py; points 9, 12, 19, 24, 29, 33, 37)."""

import unittest

from pairedthrows import errors
from pairedthrows.errors import (
    NoFit, NoPaper, NoProgram, NoRow, NoRows, NoText, ThrowError, TooMany,
)

MADE = [
    (NoText, {"row": 4}, {"row": 0}),
    (NoProgram, {"word": "range", "row": 3}, {"word": "silent", "row": -1}),
    (TooMany, {"most": 400}, {"most": 1}),
    (NoRows, {}, {}),
    (NoPaper, {"at": 2}, {"at": 7}),
    (NoFit, {}, {}),
    (NoRow, {}, {}),
]
CLASSES = [made[0] for made in MADE]


def raised(error):
    try:
        raise error
    except ThrowError as caught:
        return caught


class Errors(unittest.TestCase):
    def test_seven_refusals_and_no_more(self):
        own = [thing for thing in vars(errors).values() if isinstance(thing, type)]
        self.assertEqual(sorted(c.__name__ for c in own),
                         sorted(c.__name__ for c in CLASSES + [ThrowError]))

    def test_right_under_throw_error(self):
        self.assertEqual(ThrowError.__bases__, (ValueError,))
        for refusal in CLASSES:
            self.assertEqual(refusal.__bases__, (ThrowError,), refusal)

    def test_caught_as_itself_and_as_what_it_stands_under(self):
        for refusal, fields, _ in MADE:
            for taken in (refusal, ThrowError, ValueError):
                with self.assertRaises(taken):
                    raise refusal(*fields.values())

    def test_caught_as_none_of_the_others(self):
        for refusal, fields, _ in MADE:
            for other in CLASSES:
                if other is not refusal:
                    try:
                        raise refusal(*fields.values())
                    except other:
                        self.fail(f"{refusal} taken as {other}")
                    except ThrowError:
                        pass

    def test_fields_hold_what_it_was_made_with(self):
        for refusal, fields, _ in MADE:
            caught = raised(refusal(*fields.values()))
            self.assertEqual(vars(caught), fields)

    def test_a_second_one_beside_it_changes_nothing(self):
        for refusal, fields, others in MADE:
            one = refusal(*fields.values())
            other = refusal(*others.values())
            self.assertEqual(vars(one), fields)
            self.assertEqual(vars(other), others)
            self.assertEqual(vars(raised(other)), others)
            self.assertEqual(vars(raised(one)), fields)

    def test_any_refusal(self):
        self.assertIsInstance(raised(ThrowError()), ValueError)


if __name__ == "__main__":
    unittest.main()
