"""Rungs thrown again (points 14 and 24)."""

import itertools
import random
import unittest
from fractions import Fraction

from pairedthrows.again import rows_between, thrown_again
from pairedthrows.errors import NoRows, ThrowError
from pairedthrows.tables import is_table
from pairedthrows.throws import thrown

RANGES = list(itertools.combinations_with_replacement(range(0, 10), 2))
STEEPNESSES = sorted((Fraction(p, q) for q in range(2, 10) for p in range(1, q) if Fraction(p, q).denominator == q))


def pair(fraction):
    return (fraction.numerator, fraction.denominator)


def ladder(steepness, low, high, n):
    return thrown(("ladder", "x", (1,), steepness, low, high), (n,))


def again(table, low, rows):
    """Point 24's first sentence, as it stands."""
    totals = {}
    for rung, share in table:
        for other, part in rows[rung - low]:
            totals[other] = totals.get(other, 0) + Fraction(*share) * Fraction(*part)
    return tuple((rung, pair(totals[rung])) for rung in sorted(totals))


def make_table(dice, low, high):
    rungs = sorted(dice.sample(range(low, high + 1), dice.randrange(1, high - low + 2)))
    weights = [dice.choice((1, 2, 3, 10 ** 6)) for _ in rungs]
    return tuple((rung, pair(Fraction(weight, sum(weights)))) for rung, weight in zip(rungs, weights))


class RowsBetween(unittest.TestCase):
    def told(self, a, b, low, high):
        a, b = pair(a), pair(b)
        rows = rows_between(a, b, low, high)
        self.assertIs(type(rows), tuple)
        self.assertEqual(len(rows), high - low + 1)
        for row in rows:
            self.assertIs(is_table(row), True)
            self.assertTrue(all(low <= rung <= high for rung, _ in row))
        for n in range(low, high + 1):
            one, other = ladder(a, low, high, n), ladder(b, low, high, n)
            self.assertEqual(again(one, low, rows), other, (a, b, low, high, n))
            self.assertEqual(thrown_again(one, low, rows), other)
        self.assertEqual(rows_between(a, b, low, high), rows)

    def test_by_hand(self):
        # Of two rungs: 2/3 and 1/3 become 3/5 and 2/5 where 1 in 5 is thrown to the other rung.
        self.assertEqual(rows_between((1, 2), (2, 3), 4, 5), (((4, (4, 5)), (5, (1, 5))), ((4, (1, 5)), (5, (4, 5)))))

    def test_all_steepnesses(self):
        for a, b in itertools.combinations_with_replacement(STEEPNESSES, 2):
            for low, high in ((0, 0), (2, 3), (1, 3), (0, 4)):
                self.told(a, b, low, high)

    def test_all_ranges(self):
        for low, high in RANGES:
            for a, b in (((1, 2), (2, 3)), ((1, 9), (8, 9)), ((4, 7), (3, 5)), ((1, 3), (1, 2))):
                self.told(Fraction(*a), Fraction(*b), low, high)

    def test_alike_steepnesses_stay(self):
        for a in STEEPNESSES:
            for low, high in ((0, 0), (3, 4), (0, 9)):
                stay = tuple(((rung, (1, 1)),) for rung in range(low, high + 1))
                self.assertEqual(rows_between(pair(a), pair(a), low, high), stay)

    def test_one_rung_alone(self):
        for a, b in itertools.combinations_with_replacement(STEEPNESSES, 2):
            self.assertEqual(rows_between(pair(a), pair(b), 7, 7), (((7, (1, 1)),),))

    def test_a_above_b(self):
        for b, a in itertools.combinations(STEEPNESSES, 2):
            for low, high in ((0, 9), (4, 4)):
                with self.assertRaises(ThrowError) as caught:
                    rows_between(pair(a), pair(b), low, high)
                self.assertIs(type(caught.exception), NoRows)


class ThrownAgain(unittest.TestCase):
    def test_any_table_of_rungs(self):
        dice = random.Random(24)
        for _ in range(400):
            low, high = dice.choice(RANGES)
            table = make_table(dice, low, high)
            rows = tuple(make_table(dice, low, high) for _ in range(low, high + 1))
            told = thrown_again(table, low, rows)
            self.assertEqual(told, again(table, low, rows))
            self.assertIs(is_table(told), True)
            self.assertEqual(thrown_again(table, low, rows), told)

    def test_rows_are_counted_from_low(self):
        rows = (((3, (1, 2)), (5, (1, 2))), ((4, (1, 1)),), ((3, (1, 1)),))
        self.assertEqual(thrown_again(((3, (1, 1)),), 3, rows), rows[0])
        self.assertEqual(thrown_again(((4, (1, 1)),), 3, rows), rows[1])
        self.assertEqual(thrown_again(((5, (1, 1)),), 3, rows), rows[2])
        self.assertEqual(thrown_again(((3, (1, 2)), (5, (1, 2))), 3, rows), ((3, (3, 4)), (5, (1, 4))))

    def test_one_behind_the_other(self):
        # From a to b and on to c is from a to c.
        for low, high in ((0, 3), (5, 9)):
            to_b = rows_between((1, 3), (1, 2), low, high)
            to_c = rows_between((1, 2), (4, 5), low, high)
            both = tuple(thrown_again(row, low, to_c) for row in to_b)
            self.assertEqual(both, rows_between((1, 3), (4, 5), low, high))


if __name__ == "__main__":
    unittest.main()
