"""Rungs paired by a shift (points 14, 22 and 23)."""

import itertools
import unittest
from fractions import Fraction

from pairedthrows.paired import shows
from pairedthrows.rungs import may_pair, rungs_paired
from pairedthrows.throws import thrown

RANGES = list(itertools.combinations_with_replacement(range(0, 10), 2))
STEEPNESSES = [(p, q) for q in range(2, 10) for p in range(1, q) if Fraction(p, q).denominator == q]


def cut(number, low, high):
    return low if number < low else high if number > high else number


def reckoned(low, high, s):
    """Point 23, as it stands: for every two rungs whether they may be paired."""
    pairs = []
    for y, z in itertools.product(range(low, high + 1), repeat=2):
        target = cut(y + s, low, high)
        at_end = (s > 0 and y == low) or (s < 0 and y == high)
        if z == target or (at_end and min(y, target) <= z <= max(y, target)):
            pairs.append((y, z))
    return tuple(pairs)


class MayPair(unittest.TestCase):
    def test_by_hand(self):
        self.assertEqual(may_pair(0, 3, 0), ((0, 0), (1, 1), (2, 2), (3, 3)))
        self.assertEqual(may_pair(0, 3, 1), ((0, 0), (0, 1), (1, 2), (2, 3), (3, 3)))
        self.assertEqual(may_pair(0, 3, 2), ((0, 0), (0, 1), (0, 2), (1, 3), (2, 3), (3, 3)))
        self.assertEqual(may_pair(0, 3, -1), ((0, 0), (1, 0), (2, 1), (3, 2), (3, 3)))
        self.assertEqual(may_pair(0, 3, -2), ((0, 0), (1, 0), (2, 0), (3, 1), (3, 2), (3, 3)))
        self.assertEqual(may_pair(5, 6, 20), ((5, 5), (5, 6), (6, 6)))
        self.assertEqual(may_pair(5, 6, -20), ((5, 5), (6, 5), (6, 6)))

    def test_one_rung_alone(self):
        for s in range(-20, 21):
            for rung in range(0, 10):
                self.assertEqual(may_pair(rung, rung, s), ((rung, rung),))

    def test_all(self):
        for low, high in RANGES:
            for s in range(-20, 21):
                told = may_pair(low, high, s)
                self.assertIs(type(told), tuple)
                self.assertEqual(told, reckoned(low, high, s), (low, high, s))
                self.assertEqual(list(told), sorted(set(told)))
                self.assertEqual(may_pair(low, high, s), told)


class RungsPaired(unittest.TestCase):
    def told(self, steepness, low, high, n, m, s):
        factor, pairing = rungs_paired(steepness, low, high, n, m, s)
        wanted = 1 / Fraction(*steepness) ** abs(m - s)
        self.assertEqual(factor, (wanted.numerator, wanted.denominator))
        row = ("ladder", "x", (1,), steepness, low, high)
        one, other = thrown(row, (n,)), thrown(row, (n + m,))
        self.assertIs(type(pairing), dict)
        pairs = reckoned(low, high, s)
        self.assertIs(shows(one, other, pairs, factor, (0, 1), ("paired", pairing)), True, (low, high, n, m, s))
        # Looked at by the test itself, too: without a rest, all of each share of the one comes to pairs.
        for x, share in one:
            laid = sum((Fraction(*part) for key, part in pairing.items() if key[0] == x), Fraction(0))
            self.assertEqual(laid, Fraction(*share))
        for y, share in other:
            laid = sum((Fraction(*part) for key, part in pairing.items() if key[1] == y), Fraction(0))
            self.assertLessEqual(laid, wanted * Fraction(*share))
        self.assertTrue(set(pairing) <= set(pairs))

    def test_all_numbers_and_shifts(self):
        for low, high in ((0, 0), (4, 4), (0, 1), (3, 5), (5, 9)):
            for n, other in itertools.product(range(low, high + 1), repeat=2):
                for s in range(-20, 21):
                    self.told((2, 3), low, high, n, other - n, s)

    def test_all_steepnesses(self):
        for steepness in STEEPNESSES:
            for n, other in itertools.product(range(1, 5), repeat=2):
                for s in (-2, -1, 0, 1, 2, 3):
                    self.told(steepness, 1, 4, n, other - n, s)

    def test_all_ranges(self):
        for low, high in RANGES:
            middle = (low + high) // 2
            for n, other in itertools.product({low, middle, high}, repeat=2):
                for s in {-1, 0, 1, 2, other - n, other - n + 1}:
                    self.told((1, 2), low, high, n, other - n, s)

    def test_moved_by_just_the_shift(self):
        for n, m in ((0, 3), (4, 2), (9, -9), (5, -1)):
            factor, pairing = rungs_paired((1, 3), 0, 9, n, m, m)
            self.assertEqual(factor, (1, 1))
            self.told((1, 3), 0, 9, n, m, m)

    def test_a_dict_that_was_told_is_the_asker_s_own(self):
        told = rungs_paired((1, 3), 0, 4, 2, 1, 0)
        kept = (told[0], dict(told[1]))
        told[1].clear()
        self.assertEqual(rungs_paired((1, 3), 0, 4, 2, 1, 0), kept)


if __name__ == "__main__":
    unittest.main()
