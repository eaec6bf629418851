"""Fractions (point 4, its first sentence), against Python's own."""

import itertools
import unittest
from fractions import Fraction

from pairedthrows.fractions import added, divided, less, lowest, minus, power, times

SMALL = sorted({(f.numerator, f.denominator)
                for f in (Fraction(p, q) for p in range(0, 9) for q in range(1, 9))})
GREAT = [(10 ** 59 + 1, 10 ** 58 + 7), (3 ** 100, 2 ** 150), (2 ** 150, 3 ** 100), (1, 10 ** 60)]


def pair(fraction):
    return (fraction.numerator, fraction.denominator)


class Fractions(unittest.TestCase):
    def told(self, answer, wanted):
        self.assertIs(type(answer), tuple)
        self.assertEqual([type(part) for part in answer], [int, int])
        self.assertEqual(answer, pair(Fraction(wanted)))

    def test_lowest(self):
        for top in range(0, 61):
            for bottom in range(1, 61):
                self.told(lowest(top, bottom), Fraction(top, bottom))

    def test_lowest_at_its_edges(self):
        self.assertEqual(lowest(0, 1), (0, 1))
        self.assertEqual(lowest(0, 10 ** 60), (0, 1))
        self.assertEqual(lowest(7, 7), (1, 1))
        self.assertEqual(lowest(12, 4), (3, 1))
        self.assertEqual(lowest(4, 12), (1, 3))
        self.assertEqual(lowest(5 * 10 ** 50, 7 * 10 ** 50), (5, 7))
        self.assertEqual(lowest(6 ** 200, 4 ** 100), (9 ** 100, 1))
        self.assertEqual(lowest(10 ** 4000, 10 ** 4001), (1, 10))

    def test_added_and_times(self):
        for one, other in itertools.product(SMALL + GREAT, repeat=2):
            self.told(added(one, other), Fraction(*one) + Fraction(*other))
            self.told(times(one, other), Fraction(*one) * Fraction(*other))

    def test_sums_and_products_come_to_lower_terms(self):
        self.assertEqual(added((1, 6), (1, 3)), (1, 2))
        self.assertEqual(added((1, 2), (1, 2)), (1, 1))
        self.assertEqual(added((0, 1), (0, 1)), (0, 1))
        self.assertEqual(times((2, 3), (3, 2)), (1, 1))
        self.assertEqual(times((0, 1), (5, 7)), (0, 1))
        self.assertEqual(times((4, 9), (3, 8)), (1, 6))

    def test_minus_and_divided(self):
        for one, other in itertools.product(SMALL + GREAT, repeat=2):
            if Fraction(*one) >= Fraction(*other):
                self.told(minus(one, other), Fraction(*one) - Fraction(*other))
            if other != (0, 1):
                self.told(divided(one, other), Fraction(*one) / Fraction(*other))

    def test_power(self):
        for one in SMALL + GREAT:
            for k in range(0, 41):
                self.told(power(one, k), Fraction(*one) ** k)

    def test_power_of_nought(self):
        self.assertEqual(power((0, 1), 0), (1, 1))
        self.assertEqual(power((0, 1), 1), (0, 1))
        self.assertEqual(power((0, 1), 40), (0, 1))
        self.assertEqual(power((5, 9), 0), (1, 1))

    def test_less(self):
        for one, other in itertools.product(SMALL + GREAT, repeat=2):
            self.assertIs(less(one, other), Fraction(*one) < Fraction(*other))

    def test_less_by_a_hair(self):
        one = (10 ** 59, 10 ** 59 + 1)
        other = (10 ** 59 + 1, 10 ** 59 + 2)
        self.assertIs(less(one, other), True)
        self.assertIs(less(other, one), False)
        self.assertIs(less(one, one), False)

    def test_asked_again(self):
        for one, other in itertools.product(SMALL[:9], repeat=2):
            for asked in (added, times, less):
                self.assertEqual(asked(one, other), asked(one, other))
            self.assertEqual(power(one, 3), power(one, 3))
        self.assertEqual(lowest(6, 4), lowest(6, 4))


if __name__ == "__main__":
    unittest.main()
