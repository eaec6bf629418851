"""Tables compared (point 21), by all sets of answers and Python's fractions."""

import itertools
import random
import unittest
from fractions import Fraction

from pairedthrows.compared import breaking, least_factor, least_rest

FACTORS = [(1, 1), (2, 1), (3, 2), (10, 9), (1, 2), (9, 10), (0, 1), (7, 1), (10 ** 59 + 1, 10 ** 59),
           (10 ** 59 - 1, 10 ** 59)]

HALF = (1, 2)
ONE = ((0, HALF), (1, (1, 3)), (2, (1, 6)))
OTHER = ((0, (1, 6)), (1, (1, 3)), (2, HALF))


def pair(fraction):
    return (fraction.numerator, fraction.denominator)


def fractions_of(table):
    return {answer: Fraction(*share) for answer, share in table}


def make_table(dice, answers):
    weights = [dice.choice((1, 1, 2, 3, 10, 10 ** 9)) for _ in answers]
    return tuple((answer, pair(Fraction(weight, sum(weights)))) for answer, weight in zip(sorted(answers), weights))


def make_tables(dice, most=6):
    if dice.randrange(2):
        answers = [-3, 0, 1, 2, 5, 9, 10 ** 6]
    else:
        answers = [(), (0,), (0, -1), (0, 1), (1, 0), (2,), (2, 0, 0)]
    one = dice.sample(answers, dice.randrange(1, most + 1))
    other = one if dice.randrange(2) else dice.sample(answers, dice.randrange(1, most + 1))
    return make_table(dice, one), make_table(dice, other)


def greatest_gap(one, other, factor):
    """How much the share of a set, of whatever set, is above the factor times the other's."""
    one, other = fractions_of(one), fractions_of(other)
    answers = sorted(set(one) | set(other))
    gaps = [one.get(answer, 0) - Fraction(*factor) * other.get(answer, 0) for answer in answers]
    return max(sum(gap for gap, taken in zip(gaps, chosen) if taken)
               for chosen in itertools.product((False, True), repeat=len(gaps)))


MANY = [make_tables(random.Random(seed)) for seed in range(150)]


class LeastRest(unittest.TestCase):
    def test_by_hand(self):
        self.assertEqual(least_rest(ONE, OTHER, (1, 1)), (1, 3))
        self.assertEqual(least_rest(OTHER, ONE, (1, 1)), (1, 3))
        self.assertEqual(least_rest(ONE, OTHER, (2, 1)), (1, 6))
        self.assertEqual(least_rest(ONE, OTHER, (3, 1)), (0, 1))
        self.assertEqual(least_rest(ONE, OTHER, (1, 2)), (7, 12))
        self.assertEqual(least_rest(ONE, OTHER, (0, 1)), (1, 1))
        self.assertEqual(least_rest(ONE, ONE, (1, 1)), (0, 1))

    def test_an_answer_that_one_of_both_lacks(self):
        one = ((0, HALF), (1, HALF))
        other = ((1, HALF), (2, HALF))
        for factor in ((1, 1), (2, 1), (10 ** 59, 1)):
            self.assertEqual(least_rest(one, other, factor), HALF)
            self.assertEqual(least_rest(other, one, factor), HALF)
        self.assertEqual(least_rest(one, ((7, (1, 1)),), (5, 1)), (1, 1))

    def test_by_all_sets(self):
        for one, other in MANY:
            for factor in FACTORS:
                wanted = pair(Fraction(greatest_gap(one, other, factor)))
                self.assertEqual(least_rest(one, other, factor), wanted, (one, other, factor))
                self.assertEqual(least_rest(one, other, factor), wanted)

    def test_a_factor_of_many_figures(self):
        factor = (2 * 10 ** 59 + 1, 10 ** 59)
        self.assertEqual(least_rest(ONE, OTHER, factor),
                         pair(Fraction(1, 2) - Fraction(*factor) / 6))


class Breaking(unittest.TestCase):
    def test_by_hand(self):
        self.assertEqual(breaking(ONE, OTHER, (1, 1)), (0,))
        self.assertEqual(breaking(OTHER, ONE, (1, 1)), (2,))
        self.assertEqual(breaking(ONE, OTHER, (1, 2)), (0, 1))
        self.assertEqual(breaking(ONE, OTHER, (3, 1)), ())
        self.assertEqual(breaking(ONE, OTHER, (0, 1)), (0, 1, 2))
        self.assertEqual(breaking(ONE, ONE, (1, 1)), ())

    def test_an_answer_that_one_of_both_lacks(self):
        one = (((0,), HALF), ((1,), HALF))
        other = (((1,), HALF), ((2,), HALF))
        self.assertEqual(breaking(one, other, (9, 1)), ((0,),))
        self.assertEqual(breaking(other, one, (9, 1)), ((2,),))

    def test_it_has_the_least_rest(self):
        for one, other in MANY:
            for factor in FACTORS:
                told = breaking(one, other, factor)
                self.assertIs(type(told), tuple)
                self.assertEqual(list(told), sorted(set(told)))
                shares, others = fractions_of(one), fractions_of(other)
                gaps = [shares[answer] - Fraction(*factor) * others.get(answer, 0) for answer in told]
                self.assertTrue(all(gap > 0 for gap in gaps))
                self.assertEqual(least_rest(one, other, factor), pair(Fraction(sum(gaps))))
                self.assertEqual(breaking(one, other, factor), told)


class LeastFactor(unittest.TestCase):
    def test_by_hand(self):
        self.assertEqual(least_factor(ONE, OTHER), (3, 1))
        self.assertEqual(least_factor(OTHER, ONE), (3, 1))
        self.assertEqual(least_factor(ONE, ONE), (1, 1))
        self.assertEqual(least_factor(((1, (1, 1)),), ((0, (3, 4)), (1, (1, 4)))), (4, 1))
        self.assertEqual(least_factor(((0, (2, 5)), (1, (3, 5))), ((0, HALF), (1, HALF))), (6, 5))
        self.assertEqual(least_factor(((0, HALF), (1, HALF)), ((0, (2, 5)), (1, (3, 5)))), (5, 4))

    def test_none(self):
        whole = ((0, HALF), (1, HALF))
        for part in (((0, (1, 1)),), ((1, (1, 1)),), ((2, (1, 1)),)):
            self.assertIsNone(least_factor(whole, part))
        self.assertEqual(least_factor(((0, (1, 1)),), whole), (2, 1))
        self.assertIsNone(least_factor((((0, 1), (1, 1)),), (((0, 2), (1, 1)),)))

    def test_it_is_the_least_that_holds(self):
        seen = set()
        for one, other in MANY:
            told = least_factor(one, other)
            seen.add(told is None)
            self.assertEqual(least_factor(one, other), told)
            lacking = set(fractions_of(one)) - set(fractions_of(other))
            self.assertEqual(told is None, bool(lacking))
            if told is not None:
                self.assertEqual(told, pair(Fraction(*told)))
                self.assertEqual(greatest_gap(one, other, told), 0)
                below = Fraction(*told) * Fraction(10 ** 30 - 1, 10 ** 30)
                self.assertGreater(greatest_gap(one, other, pair(below)), 0)
        self.assertEqual(seen, {True, False})


if __name__ == "__main__":
    unittest.main()
