"""Throws (points 13 to 17), against reckonings of the tests' own with Python's fractions."""

import itertools
import random
import unittest
from fractions import Fraction

import programs
from pairedthrows.tables import is_table
from pairedthrows.throws import number_of, share_of, tail_of, thrown

STEEPNESSES = [(p, q) for q in range(2, 10) for p in range(1, q) if Fraction(p, q).denominator == q]
GENTLE = [(p, q) for p, q in STEEPNESSES if 2 * p <= q]


def pair(fraction):
    return (fraction.numerator, fraction.denominator)


def cut(number, low, high):
    return low if number < low else high if number > high else number


def number(weights, crowd):
    return sum(weight * count for weight, count in zip(weights, crowd))


def g_share(a, k):
    return (1 - a) / (1 + a) * a ** abs(k)


def ladder(n, a, low, high):
    """Point 14, as it stands."""
    if low == high:
        return {low: Fraction(1)}
    table = {low: a ** (n - low) / (1 + a), high: a ** (high - n) / (1 + a)}
    for y in range(low + 1, high):
        table[y] = g_share(a, y - n)
    return table


def flat(n, r, low, high):
    table = {}
    for u in range(-r, r + 1):
        y = cut(n + u, low, high)
        table[y] = table.get(y, 0) + Fraction(1, 2 * r + 1)
    return table


def choose(numbers, a):
    weights = [(1 / a) ** n for n in numbers]
    return {i: weight / sum(weights) for i, weight in enumerate(weights)}


def first(mark, a, b, numbers, low, high):
    """Point 17: all marks with all rows of the sums' throws."""
    table = {}
    throws = [ladder(n, b, low, high - 1) for n in numbers]
    for m, share in ladder(mark, a, low, high).items():
        for row in itertools.product(*throws):
            together = share
            for throw, q in zip(throws, row):
                together *= throw[q]
            told = next((i for i, q in enumerate(row) if q >= m), len(row))
            table[told] = table.get(told, 0) + together
    return table


def reckoned(row, crowd):
    low, high = row[-2:]
    if row[0] == "ladder":
        return ladder(cut(number(row[2], crowd), low, high), Fraction(*row[3]), low, high)
    if row[0] == "flat":
        return flat(cut(number(row[2], crowd), low, high), row[3], low, high)
    if row[0] == "choose":
        return choose([cut(number(weights, crowd), low, high) for weights in row[2]], Fraction(*row[3]))
    numbers = [cut(number(weights, crowd), low, high - 1) for weights in row[5]]
    return first(row[2], Fraction(*row[3]), Fraction(*row[4]), numbers, low, high)


class NumberOf(unittest.TestCase):
    def told(self, row, crowd, wanted):
        for _ in range(2):
            answer = number_of(row, crowd)
            self.assertEqual(answer, wanted, (row, crowd))
            self.assertIs(type(answer), tuple)
            self.assertTrue(all(type(part) is int for part in answer))

    def test_a_ladder_and_a_flat_one_have_one(self):
        for crowd, wanted in (((0,), 2), ((2,), 2), ((3,), 3), ((6,), 6), ((7,), 6), ((10 ** 6,), 6)):
            self.told(("ladder", "x", (1,), (1, 2), 2, 6), crowd, (wanted,))
            self.told(("flat", "x", (1,), 2, 2, 6), crowd, (wanted,))

    def test_weights(self):
        for weight, wanted in ((0, 0), (1, 2), (2, 4), (3, 6)):
            self.told(("ladder", "x", (weight,), (1, 2), 0, 9), (2,), (wanted,))
        self.told(("ladder", "x", (0,), (1, 2), 0, 9), (10 ** 6,), (0,))
        self.told(("ladder", "x", (0,), (1, 2), 4, 9), (10 ** 6,), (4,))

    def test_several_kinds(self):
        self.told(("ladder", "x", (1, 2, 3), (1, 2), 0, 9), (3, 1, 1), (8,))
        self.told(("flat", "x", (3, 0, 1), 1, 0, 9), (1, 10 ** 6, 2), (5,))
        self.told(("flat", "x", (0, 0), 1, 0, 9), (5, 5), (0,))
        self.told(("flat", "x", (0, 1), 1, 0, 9), (0, 10 ** 6), (9,))

    def test_each_sum_of_a_choose(self):
        self.told(("choose", "x", ((1, 0), (0, 1), (1, 1), (0, 0)), (1, 2), 1, 5), (2, 4), (2, 4, 5, 1))
        self.told(("choose", "x", ((3, 0),), (1, 2), 1, 5), (0, 4), (1,))

    def test_the_sums_of_a_first_are_cut_a_rung_below(self):
        row = ("first", "x", 2, (1, 2), (1, 3), ((1,), (2,), (0,)), 1, 5)
        for crowd, wanted in (((0,), (1, 1, 1)), ((1,), (1, 2, 1)), ((2,), (2, 4, 1)), ((3,), (3, 4, 1)),
                              ((4,), (4, 4, 1)), ((5,), (4, 4, 1)), ((10 ** 6,), (4, 4, 1))):
            self.told(row, crowd, wanted)
        self.told(("first", "x", 2, (1, 2), (1, 3), ((1,),), 2, 3), (10 ** 6,), (2,))

    def test_one_rung_alone(self):
        for sort in ("ladder", "flat"):
            for count in (0, 3, 10 ** 6):
                self.told((sort, "x", (1,), (1, 2) if sort == "ladder" else 1, 3, 3), (count,), (3,))

    def test_many(self):
        dice = random.Random(13)
        for seed in range(800):
            kinds = ("a", "b", "c")[:1 + seed % 3]
            row = programs.narrow_throw(dice, kinds)
            crowd = tuple(dice.choice((0, 0, 1, 2, 3, 4, 10 ** 6)) for _ in kinds)
            sums = row[5] if row[0] == "first" else row[2] if row[0] == "choose" else (row[2],)
            high = row[-1] - (row[0] == "first")
            self.told(row, crowd, tuple(cut(number(weights, crowd), row[-2], high) for weights in sums))


class Shares(unittest.TestCase):
    def test_share_of(self):
        for steepness in STEEPNESSES:
            for k in range(-20, 21):
                self.assertEqual(share_of(steepness, k), pair(g_share(Fraction(*steepness), k)))
                self.assertEqual(share_of(steepness, k), share_of(steepness, -k))

    def test_tail_of(self):
        for steepness in STEEPNESSES:
            a = Fraction(*steepness)
            for k in range(-20, 21):
                # All numbers below 0 have the half of what 0 leaves; what lies between is added up.
                wanted = (1 - g_share(a, 0)) / 2 + sum(g_share(a, j) for j in range(k, 1)) \
                    - sum(g_share(a, j) for j in range(1, k))
                self.assertEqual(tail_of(steepness, k), pair(wanted), (steepness, k))

    def test_the_tail_and_the_share_ahead_of_it(self):
        for steepness in STEEPNESSES:
            for k in range(-20, 20):
                together = Fraction(*share_of(steepness, k)) + Fraction(*tail_of(steepness, k + 1))
                self.assertEqual(tail_of(steepness, k), pair(together))

    def test_both_sides_come_to_one(self):
        for steepness in STEEPNESSES:
            for k in range(-19, 21):
                self.assertEqual(Fraction(*tail_of(steepness, k)) + Fraction(*tail_of(steepness, 1 - k)), 1)

    def test_by_hand(self):
        self.assertEqual([share_of((1, 2), k) for k in (-2, -1, 0, 1, 2)],
                         [(1, 12), (1, 6), (1, 3), (1, 6), (1, 12)])
        self.assertEqual([tail_of((1, 2), k) for k in (-2, -1, 0, 1, 2)],
                         [(11, 12), (5, 6), (2, 3), (1, 3), (1, 6)])
        self.assertEqual(share_of((8, 9), 0), (1, 17))
        self.assertEqual(tail_of((8, 9), 0), (9, 17))
        self.assertEqual(tail_of((8, 9), 1), (8, 17))


class Thrown(unittest.TestCase):
    def told(self, row, crowd, wanted=None):
        if wanted is None:
            wanted = reckoned(row, crowd)
        wanted = tuple((answer, pair(wanted[answer])) for answer in sorted(wanted) if wanted[answer])
        answer = thrown(row, crowd)
        self.assertEqual(answer, wanted, (row, crowd))
        self.assertIs(is_table(answer), True)
        self.assertEqual(thrown(row, crowd), answer)

    def test_ladders(self):
        for low, high in itertools.combinations_with_replacement(range(0, 10), 2):
            for steepness in ((1, 2), (1, 9), (8, 9), (4, 7)):
                for count in range(0, 11):
                    self.told(("ladder", "x", (1,), steepness, low, high), (count,))

    def test_a_ladder_of_each_steepness(self):
        for steepness in STEEPNESSES:
            for count in (0, 2, 3, 5, 10 ** 6):
                self.told(("ladder", "x", (1,), steepness, 2, 5), (count,))

    def test_a_ladder_by_hand(self):
        row = ("ladder", "x", (1,), (1, 2), 0, 3)
        half, third, sixth, twelfth = Fraction(1, 2), Fraction(1, 3), Fraction(1, 6), Fraction(1, 12)
        self.told(row, (0,), {0: 2 * third, 1: sixth, 2: twelfth, 3: twelfth})
        self.told(row, (1,), {0: third, 1: third, 2: sixth, 3: sixth})
        self.told(row, (3,), {0: twelfth, 1: twelfth, 2: sixth, 3: 2 * third})
        self.told(row, (10 ** 6,), {0: twelfth, 1: twelfth, 2: sixth, 3: 2 * third})
        self.told(("ladder", "x", (1,), (1, 2), 4, 4), (1,), {4: 2 * half})

    def test_a_ladder_is_its_number_and_g_cut(self):
        for low, high, n in ((0, 9, 0), (0, 9, 4), (2, 5, 5), (3, 4, 3), (6, 6, 6)):
            a = Fraction(1, 3)
            near = {}
            for k in range(-60, 61):
                y = cut(n + k, low, high)
                near[y] = near.get(y, 0) + g_share(a, k)
            told = thrown(("ladder", "x", (1,), (1, 3), low, high), (n,))
            self.assertEqual([y for y, _ in told], sorted(near))
            for y, share in told:
                self.assertLess(abs(Fraction(*share) - near[y]), a ** 60)

    def test_flat_ones(self):
        for low, high in itertools.combinations_with_replacement(range(0, 10), 2):
            for r in range(0, 5):
                for count in (0, 1, low, (low + high) // 2, high, 10 ** 6):
                    self.told(("flat", "x", (1,), r, low, high), (count,))

    def test_a_flat_one_by_hand(self):
        fifth = Fraction(1, 5)
        self.told(("flat", "x", (1,), 2, 0, 9), (4,), {y: fifth for y in range(2, 7)})
        self.told(("flat", "x", (1,), 2, 0, 9), (1,), {0: 2 * fifth, 1: fifth, 2: fifth, 3: fifth})
        self.told(("flat", "x", (1,), 2, 0, 2), (1,), {0: 2 * fifth, 1: fifth, 2: 2 * fifth})
        self.told(("flat", "x", (1,), 0, 0, 9), (4,), {4: Fraction(1)})
        self.told(("flat", "x", (1,), 4, 5, 5), (4,), {5: Fraction(1)})

    def test_chooses(self):
        for many in range(1, 5):
            for weights in itertools.product((0, 1, 3), repeat=many):
                sums = tuple((weight,) for weight in weights)
                for steepness, low, high in (((1, 2), 0, 9), ((8, 9), 2, 7), ((2, 5), 3, 3)):
                    for count in (0, 1, 2, 10 ** 6):
                        self.told(("choose", "x", sums, steepness, low, high), (count,))

    def test_a_choose_by_hand(self):
        sums = ((1, 0), (0, 1), (1, 0))
        self.told(("choose", "x", sums, (1, 2), 0, 9), (1, 3),
                  {0: Fraction(1, 6), 1: Fraction(2, 3), 2: Fraction(1, 6)})
        self.told(("choose", "x", sums, (2, 3), 0, 9), (1, 0),
                  {0: Fraction(3, 8), 1: Fraction(1, 4), 2: Fraction(3, 8)})
        self.told(("choose", "x", ((1, 0),), (2, 3), 0, 9), (7, 0), {0: Fraction(1)})

    def test_firsts(self):
        for low, high in itertools.combinations(range(0, 10), 2):
            for mark in {low, (low + high) // 2, high}:
                for count in (0, 2, 10 ** 6):
                    self.told(("first", "x", mark, (1, 2), (1, 3), ((1,), (3,)), low, high), (count,))

    def test_a_first_of_one_to_four_sums(self):
        for many in range(1, 5):
            for low, high, mark in ((0, 1, 0), (0, 1, 1), (3, 5, 3), (3, 5, 4), (3, 5, 5), (0, 4, 2)):
                sums = ((1, 0), (1, 2), (0, 1), (1, 0))[:many]
                for crowd in ((0, 0), (2, 1), (4, 0), (10 ** 6, 10 ** 6)):
                    self.told(("first", "x", mark, (2, 3), (1, 2), sums, low, high), crowd)

    def test_a_first_of_each_steepness(self):
        for a in STEEPNESSES:
            for b in GENTLE:
                self.told(("first", "x", 2, a, b, ((1,), (2,)), 1, 4), (1,))

    def test_a_first_whose_high_is_just_above_low(self):
        # Its mark alone moves: all sums are at low, so the first one is a yes where the mark is low.
        for many in range(1, 5):
            row = ("first", "x", 4, (1, 2), (1, 3), ((1,),) * many, 4, 5)
            self.told(row, (9,), {0: Fraction(2, 3), many: Fraction(1, 3)})
            self.told(row[:2] + (5,) + row[3:], (9,), {0: Fraction(1, 3), many: Fraction(2, 3)})

    def test_several_kinds_and_great_crowds(self):
        dice = random.Random(17)
        for seed in range(600):
            kinds = ("a", "b", "c")[:1 + seed % 3]
            row = programs.narrow_throw(dice, kinds)
            self.told(row, tuple(dice.choice((0, 0, 1, 2, 3, 10 ** 6)) for _ in kinds))


if __name__ == "__main__":
    unittest.main()
