"""Tables (point 4)."""

import itertools
import random
import unittest
from fractions import Fraction

from pairedthrows.tables import is_table, merged

HALF = (1, 2)
GOOD = [
    ((0, (1, 1)),),
    ((-3, (1, 1)),),
    ((-3, HALF), (0, HALF)),
    ((-5, (1, 3)), (-4, (1, 6)), (10 ** 7, HALF)),
    (((0,), (1, 1)),),
    (((), (1, 1)),),
    (((), HALF), ((0,), HALF)),
    (((1, 2), (1, 4)), ((1, 3), (3, 4))),
    (((-1,), (1, 3)), ((0,), (1, 3)), ((0, -5), (1, 3))),
    tuple((k, (1, 12)) for k in range(12)),
    ((1, (1, 999999999989)), (2, (999999999988, 999999999989))),
    ((1, (1, 10 ** 80)), (2, (10 ** 80 - 1, 10 ** 80))),
]


def table_of(pairs):
    totals = {}
    for answer, share in pairs:
        totals[answer] = totals.get(answer, 0) + Fraction(*share)
    return tuple((answer, (totals[answer].numerator, totals[answer].denominator))
                 for answer in sorted(totals) if totals[answer])


class IsTable(unittest.TestCase):
    def all_told(self, things, wanted):
        for thing in things:
            self.assertIs(is_table(thing), wanted, thing)

    def test_tables(self):
        self.all_told(GOOD, True)

    def test_no_pairs(self):
        self.assertIs(is_table(()), False)

    def test_an_answer_twice(self):
        self.all_told([((1, HALF), (1, HALF)), (((1,), HALF), ((1,), HALF)),
                       ((0, (1, 3)), (2, (1, 3)), (2, (1, 3)))], False)

    def test_two_exchanged(self):
        for table in GOOD:
            for i, j in itertools.combinations(range(len(table)), 2):
                rows = list(table)
                rows[i], rows[j] = rows[j], rows[i]
                self.assertIs(is_table(tuple(rows)), False, rows)

    def test_mixed_sorts(self):
        self.all_told([((1, HALF), ((1,), HALF)), (((1,), HALF), (1, HALF)),
                       ((0, (1, 3)), (1, (1, 3)), ((), (1, 3))),
                       ((-2, (1, 3)), ((0,), (1, 3)), (1, (1, 3)))], False)

    def test_truths_are_no_whole_numbers(self):
        self.all_told([((True, (1, 1)),), (((True,), (1, 1)),), (((0, False), HALF), ((1, 1), HALF))], False)

    def test_a_share_of_nought_or_below(self):
        self.all_told([((0, (0, 1)), (1, (1, 1))), ((0, (1, 1)), (1, (0, 1))), ((0, (0, 1)),),
                       ((0, (-1, 2)), (1, (3, 2))), ((0, (3, 2)), (1, (-1, 2))), ((0, (-1, 1)),)], False)

    def test_a_bottom_of_nought_or_below(self):
        self.all_told([((0, (1, 0)),), ((0, (0, 0)),), ((0, (-1, -1)),), ((0, (1, -1)),),
                       ((0, (-1, -2)), (1, HALF)), ((0, HALF), (1, (-1, -2))), ((0, HALF), (1, (1, 0))),
                       ((0, (1, 0)), (1, (1, 0))), ((0, (1, 0)), (1, (1, 1)))], False)

    def test_a_share_not_in_lowest_terms(self):
        self.all_told([((0, (2, 2)),), ((0, (2, 4)), (1, HALF)), ((0, HALF), (1, (3, 6))),
                       ((0, (10 ** 70, 10 ** 70)),)], False)

    def test_shares_that_do_not_come_to_one(self):
        self.all_told([((0, HALF),), ((0, (2, 1)),), ((0, HALF), (1, (1, 3))), ((0, HALF), (1, HALF), (2, HALF)),
                       ((0, (1, 1)), (1, (1, 10 ** 11))),
                       ((1, (1, 10 ** 80)), (2, (10 ** 80 - 3, 10 ** 80)))], False)

    def test_asked_again(self):
        for thing in GOOD + [(), ((0, HALF),)]:
            self.assertIs(is_table(thing), is_table(thing))


class Merged(unittest.TestCase):
    def told(self, pairs, wanted):
        before = list(pairs)
        answer = merged(pairs)
        self.assertEqual(answer, wanted)
        self.assertIs(type(answer), tuple)
        self.assertIs(is_table(answer), True)
        self.assertEqual(pairs, before)
        self.assertEqual(merged(pairs), answer)

    def test_answers_twice(self):
        self.told([(1, HALF), (1, HALF)], ((1, (1, 1)),))
        self.told([((2,), (1, 6)), ((1,), HALF), ((2,), (1, 3))], (((1,), HALF), ((2,), HALF)))
        self.told([(-1, (1, 3)), (5, (1, 6)), (-7, (1, 4)), (5, (1, 4))],
                  ((-7, (1, 4)), (-1, (1, 3)), (5, (5, 12))))

    def test_nought_alone_is_left_out(self):
        self.told([(0, (0, 1)), (1, (1, 1))], ((1, (1, 1)),))
        self.told([(0, (0, 1)), (1, (1, 1)), (0, (0, 1)), (1, (0, 1))], ((1, (1, 1)),))
        self.told([(0, (0, 1)), (0, HALF), (1, HALF), (0, (0, 1))], ((0, HALF), (1, HALF)))

    def test_any_order(self):
        pairs = [((0,), (1, 8)), ((0, 1), (3, 8)), ((), (1, 4)), ((0,), (1, 8)), ((3, -1), (0, 1)), ((-2,), (1, 8))]
        for mixed in itertools.permutations(pairs):
            self.told(list(mixed), (((), (1, 4)), ((-2,), (1, 8)), ((0,), (1, 4)), ((0, 1), (3, 8))))

    def test_many(self):
        dice = random.Random(4)
        for _ in range(200):
            weights = [dice.randrange(5) for _ in range(dice.randrange(1, 20))] + [1]
            answers = [dice.randrange(-4, 5) for _ in weights]
            if dice.randrange(2):
                answers = [(answer // 3, answer % 3) for answer in answers]
            shares = [Fraction(weight, sum(weights)) for weight in weights]
            pairs = [(answer, (share.numerator, share.denominator)) for answer, share in zip(answers, shares)]
            self.told(pairs, table_of(pairs))

    def test_what_is_done_later_changes_nothing(self):
        pairs = [(1, HALF), (2, HALF)]
        answer = merged(pairs)
        pairs.append((3, HALF))
        pairs[0] = (9, HALF)
        self.assertEqual(answer, ((1, HALF), (2, HALF)))


if __name__ == "__main__":
    unittest.main()
