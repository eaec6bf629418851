"""Pairings and sets that break them (points 21 and 22), looked at by the tests themselves."""

import itertools
import random
import unittest
from fractions import Fraction

from pairedthrows.compared import least_rest
from pairedthrows.paired import paired, shows
from pairedthrows.reader import read
from pairedthrows.runs import told_table

HALF = (1, 2)
NONE = (0, 1)
WHOLE = (1, 1)
ONE = ((0, (1, 2)), (1, (1, 3)), (2, (1, 6)))
OTHER = ((0, (1, 6)), (1, (1, 3)), (2, (1, 2)))
ALIKE = ((0, 0), (1, 1), (2, 2))
ALL = tuple(itertools.product((0, 1, 2), repeat=2))


def pair(fraction):
    fraction = Fraction(fraction)
    return (fraction.numerator, fraction.denominator)


def shares_of(table):
    return {answer: Fraction(*share) for answer, share in table}


def is_pairing(one, other, pairs, factor, rest, pairing):
    """Point 22, of a pairing, as it stands."""
    one, other = shares_of(one), shares_of(other)
    laid = {key: Fraction(*share) for key, share in pairing.items()}
    return all(key in pairs for key in laid) and all(share > 0 for share in laid.values()) \
        and all(sum(laid[key] for key in laid if key[0] == x) <= one[x] for x in one) \
        and all(sum(laid[key] for key in laid if key[1] == y) <= Fraction(*factor) * other[y] for y in other) \
        and sum(laid.values()) >= 1 - Fraction(*rest)


def gap(one, other, pairs, factor, answers):
    """By how much the share of a set is above the factor times the share of all its partners."""
    one, other = shares_of(one), shares_of(other)
    partners = {y for x, y in pairs if x in answers}
    return sum(one[x] for x in answers) - Fraction(*factor) * sum(other[y] for y in partners)


def greatest_gap(one, other, pairs, factor):
    """The gap of that set, of all, that has the greatest: below it a rest is broken, from it on there is a pairing."""
    others = [Fraction(*factor) * Fraction(*share) for _, share in other]
    places = {y: 1 << k for k, (y, _) in enumerate(other)}
    below = {0: Fraction(0)}
    for mask in range(1, 1 << len(other)):
        low = mask & -mask
        below[mask] = below[mask ^ low] + others[low.bit_length() - 1]
    masks = [sum(places[y] for x, y in pairs if x == answer) for answer, _ in one]
    sets = [(Fraction(0), 0)]
    for (_, share), mask in zip(one, masks):
        sets += [(total + Fraction(*share), joined | mask) for total, joined in sets]
    return max(total - below[joined] for total, joined in sets)


def make_table(dice, answers, weights=(1, 1, 2, 3, 10, 97)):
    picked = [dice.choice(weights) for _ in answers]
    return tuple((answer, pair(Fraction(weight, sum(picked)))) for answer, weight in zip(sorted(answers), picked))


def make_case(seed, most=6):
    dice = random.Random(seed)
    numbers = list(range(-2, 10)) + [10 ** 6]
    tuples = [()] + [(k // 4, k % 4) for k in range(12)]
    one = make_table(dice, dice.sample(dice.choice((numbers, tuples)), dice.randrange(1, most + 1)))
    other = make_table(dice, dice.sample(dice.choice((numbers, tuples)), dice.randrange(1, most + 1)))
    chance = dice.choice((0, 1, 3, 5, 8, 10))
    pairs = tuple((x, y) for x, _ in one for y, _ in other if dice.randrange(10) < chance)
    return one, other, pairs


FACTORS = [(1, 1), (2, 1), (3, 2), (11, 10), (1, 2), (9, 10), (0, 1), (50, 1)]
LONG = [(10 ** 59 + 7, 10 ** 59 - 1), (3 ** 120, 2 ** 190), (10 ** 59, 10 ** 59 + 9), (7 ** 70, 10 ** 59 + 1)]


class Paired(unittest.TestCase):
    def told(self, one, other, pairs, factor, rest):
        """Looks at what is told by point 22, and tells its word."""
        case = (one, other, pairs, factor, rest)
        told = paired(*case)
        self.assertIs(type(told), tuple)
        self.assertEqual(len(told), 2)
        word, what = told
        if word == "paired":
            self.assertIs(type(what), dict)
            self.assertTrue(is_pairing(*case, what), case)
            self.assertTrue(all(share == pair(Fraction(*share)) for share in what.values()))
        else:
            self.assertEqual(word, "broken")
            self.assertIs(type(what), tuple)
            self.assertEqual(list(what), [x for x, _ in one if x in what])
            self.assertGreater(gap(*case[:4], what), Fraction(*rest), case)
        self.assertIs(shows(*case, told), True, case)
        self.assertEqual(paired(*case), told)
        return word

    def test_alike_tables_paired_with_themselves(self):
        self.assertEqual(paired(ONE, ONE, ALIKE, WHOLE, NONE), ("paired", {(x, x): share for x, share in ONE}))

    def test_alike_answers_are_held_against_one_another(self):
        self.assertEqual(paired(ONE, OTHER, ALIKE, (3, 1), NONE)[0], "paired")
        self.assertEqual(paired(ONE, OTHER, ALIKE, (2, 1), NONE), ("broken", (0,)))
        self.assertEqual(paired(ONE, OTHER, ALIKE, (2, 1), (1, 6))[0], "paired")
        self.assertEqual(paired(ONE, OTHER, ALIKE, (2, 1), (1, 7)), ("broken", (0,)))

    def test_by_alike_answers_it_is_the_least_rest(self):
        for seed in range(100):
            dice = random.Random(seed)
            answers = [(k,) for k in range(6)]
            one = make_table(dice, dice.sample(answers, 4))
            other = make_table(dice, dice.sample(answers, 4))
            alike = tuple((x, x) for x, _ in one if x in dict(other))
            for factor in FACTORS:
                least = least_rest(one, other, factor)
                self.assertEqual(self.told(one, other, alike, factor, least), "paired")
                if least != NONE:
                    below = pair(Fraction(*least) * Fraction(10 ** 40 - 1, 10 ** 40))
                    self.assertEqual(self.told(one, other, alike, factor, below), "broken")

    def test_all_pairs(self):
        self.assertEqual(self.told(ONE, OTHER, ALL, WHOLE, NONE), "paired")
        self.assertEqual(self.told(ONE, OTHER, ALL, (99, 100), NONE), "broken")
        self.assertEqual(self.told(ONE, OTHER, ALL, (99, 100), (1, 100)), "paired")
        self.assertEqual(self.told(ONE, OTHER, ALL, (99, 100), (1, 101)), "broken")
        self.assertEqual(self.told(ONE, OTHER, ALL, NONE, (99, 100)), "broken")

    def test_no_pairs(self):
        for factor in FACTORS:
            self.assertEqual(paired(ONE, OTHER, (), factor, WHOLE), ("paired", {}))
            self.assertEqual(self.told(ONE, OTHER, (), factor, (99, 100)), "broken")
            self.assertEqual(self.told(ONE, OTHER, (), factor, NONE), "broken")

    def test_a_rest_of_one_or_more(self):
        for rest in (WHOLE, (3, 2), (10 ** 59, 1)):
            for pairs in ((), ALIKE, ALL):
                self.assertEqual(self.told(ONE, OTHER, pairs, (1, 2), rest), "paired")

    def test_single_answers(self):
        one, other = ((5, WHOLE),), (((5,), WHOLE),)
        self.assertEqual(paired(one, other, ((5, (5,)),), WHOLE, NONE), ("paired", {(5, (5,)): WHOLE}))
        self.assertEqual(paired(one, other, ((5, (5,)),), HALF, NONE), ("broken", (5,)))
        self.assertEqual(paired(one, other, ((5, (5,)),), HALF, HALF), ("paired", {(5, (5,)): HALF}))
        self.assertEqual(paired(one, other, (), (9, 1), NONE), ("broken", (5,)))

    def test_there_and_back(self):
        # What is laid first upon the one that both may have must be given back, several times over.
        for many in range(2, 13):
            one = tuple((k, (1, many)) for k in range(many))
            pairs = tuple(sorted([(k, k) for k in range(many)] + [(k, k - 1) for k in range(1, many)]))
            self.assertEqual(paired(one, one, pairs, WHOLE, NONE), ("paired", {(k, k): (1, many) for k in range(many)}))
            back = tuple(sorted([(k, k) for k in range(many)] + [(k, k + 1) for k in range(many - 1)]))
            self.assertEqual(paired(one, one, back, WHOLE, NONE), ("paired", {(k, k): (1, many) for k in range(many)}))

    def test_just_at_the_edge(self):
        words = {}
        for seed in range(250):
            one, other, pairs = make_case(seed)
            factor = FACTORS[seed % len(FACTORS)]
            least = greatest_gap(one, other, pairs, factor)
            self.assertEqual(self.told(one, other, pairs, factor, pair(least)), "paired")
            self.assertEqual(self.told(one, other, pairs, factor, pair(least + Fraction(1, 10 ** 20))), "paired")
            if least:
                self.assertEqual(self.told(one, other, pairs, factor, pair(least - least / 10 ** 20)), "broken")
            for rest in (NONE, (1, 10), HALF, WHOLE):
                word = self.told(one, other, pairs, factor, rest)
                self.assertEqual(word, "paired" if Fraction(*rest) >= least else "broken")
                words[word] = words.get(word, 0) + 1
        self.assertGreater(min(words.values()), 100)

    def test_tables_of_twelve(self):
        for seed in range(1000, 1012):
            one, other, pairs = make_case(seed, 12)
            for factor in FACTORS[:4]:
                least = greatest_gap(one, other, pairs, factor)
                self.assertEqual(self.told(one, other, pairs, factor, pair(least)), "paired")
                if least:
                    self.assertEqual(self.told(one, other, pairs, factor, pair(least - least / 10 ** 20)), "broken")

    def test_factors_and_rests_of_many_figures(self):
        weights = (1, 2, 10 ** 9 + 7, 10 ** 10 + 19, 3 * 10 ** 10 + 1)
        for seed in range(40):
            dice = random.Random(seed)
            one = make_table(dice, range(12), weights)
            other = make_table(dice, range(12), weights)
            pairs = tuple((x, y) for x in range(12) for y in range(12) if dice.randrange(10) < 2 + seed % 4)
            for factor in LONG:
                least = greatest_gap(one, other, pairs, factor) if seed < 4 else None
                for rest in (NONE, (1, 10 ** 59), (10 ** 58 + 1, 10 ** 59), (10 ** 59 - 1, 10 ** 59)):
                    word = self.told(one, other, pairs, factor, rest)
                    if least is not None:
                        self.assertEqual(word, "paired" if Fraction(*rest) >= least else "broken")

    def test_told_tables_of_many_answers(self):
        text = "kinds a\nladder x 8/9 0 9 of a\nladder y 4/5 0 9 of a\nladder z 1/3 0 3 of a\ntell x\ntell y\ntell z"
        one, other = (told_table(read(text), (count,)) for count in (3, 4))
        alike = tuple((x, x) for x, _ in one)
        factor = (9 * 5 * 3, 8 * 4)
        self.assertEqual(paired(one, other, alike, factor, NONE), ("paired", {(x, x): share for x, share in one}))
        least = least_rest(one, other, WHOLE)
        word, pairing = paired(one, other, alike, WHOLE, least)
        self.assertEqual(word, "paired")
        self.assertIs(shows(one, other, alike, WHOLE, least, (word, pairing)), True)

    def test_a_dict_that_was_told_is_the_asker_s_own(self):
        told = paired(ONE, OTHER, ALL, WHOLE, NONE)
        kept = dict(told[1])
        told[1].clear()
        told[1][(9, 9)] = HALF
        self.assertEqual(paired(ONE, OTHER, ALL, WHOLE, NONE), ("paired", kept))


class Shows(unittest.TestCase):
    RIGHT = {(0, 0): (1, 6), (0, 1): (1, 3), (1, 2): (1, 3), (2, 2): (1, 6)}

    def pairing(self, wanted, pairing, pairs=ALL, factor=WHOLE, rest=NONE):
        before = dict(pairing)
        for _ in range(2):
            self.assertIs(shows(ONE, OTHER, pairs, factor, rest, ("paired", pairing)), wanted, pairing)
        self.assertEqual(pairing, before)

    def set_is(self, wanted, answers, pairs=ALIKE, factor=WHOLE, rest=NONE):
        for _ in range(2):
            self.assertIs(shows(ONE, OTHER, pairs, factor, rest, ("broken", answers)), wanted, answers)

    def changed(self, key, share):
        return {**self.RIGHT, key: share}

    def test_right_pairings(self):
        self.pairing(True, self.RIGHT)
        self.pairing(True, self.RIGHT, tuple(sorted(self.RIGHT)))
        self.pairing(True, {(x, x): share for x, share in ONE}, ALIKE, (3, 1))
        self.pairing(True, {(0, 0): (1, 6)}, rest=(5, 6))
        self.pairing(True, {}, rest=WHOLE)
        self.pairing(True, {}, (), NONE, (2, 1))

    def test_a_share_of_nought(self):
        self.pairing(False, self.changed((1, 1), NONE))
        self.pairing(False, {(0, 0): NONE}, rest=WHOLE)

    def test_pairs_that_may_not_be_paired(self):
        for lacking in self.RIGHT:
            self.pairing(False, self.RIGHT, tuple(key for key in ALL if key != lacking))
        self.pairing(False, {(3, 0): (1, 100)}, rest=WHOLE)
        self.pairing(False, {(0, 3): (1, 100)}, rest=WHOLE)
        self.pairing(False, {((0,), (0,)): (1, 100)}, rest=WHOLE)
        self.pairing(False, {(0, 1): (1, 100)}, ((1, 0),), rest=WHOLE)

    def test_too_much_of_an_x(self):
        self.pairing(False, self.changed((0, 1), HALF), factor=(9, 1))
        self.pairing(False, {(2, 0): (1, 6), (2, 1): (1, 10 ** 30)}, factor=(9, 1), rest=WHOLE)
        self.pairing(True, {(2, 0): (1, 12), (2, 1): (1, 12)}, factor=(9, 1), rest=WHOLE)

    def test_too_much_of_a_y(self):
        self.pairing(False, {(0, 0): (1, 6), (1, 0): (1, 10 ** 30)}, rest=WHOLE)
        self.pairing(True, {(0, 0): (1, 12), (1, 0): (1, 12)}, rest=WHOLE)
        self.pairing(False, {(0, 0): (1, 12), (1, 0): (1, 12)}, factor=(99, 100), rest=WHOLE)
        self.pairing(False, self.RIGHT, factor=(99, 100), rest=WHOLE)
        self.pairing(False, {(0, 0): (1, 10 ** 30)}, factor=NONE, rest=WHOLE)

    def test_too_little_in_all(self):
        less = self.changed((2, 2), (1, 7))
        self.pairing(False, less)
        self.pairing(True, less, rest=(1, 42))
        self.pairing(False, less, rest=(1, 43))
        self.pairing(False, {})
        self.pairing(False, {}, rest=(10 ** 59 - 1, 10 ** 59))

    def test_right_sets(self):
        self.set_is(True, (0,))
        self.set_is(True, (0, 1))
        self.set_is(True, (0,), rest=(33, 100))
        self.set_is(True, (0, 1, 2), ())
        self.set_is(True, (0, 1, 2), ALL, (99, 100))
        self.set_is(True, (2,), ((0, 0), (1, 1)), (50, 1))

    def test_sets_that_do_not_break_it(self):
        self.set_is(False, ())
        self.set_is(False, (), ())
        self.set_is(False, (1,))
        self.set_is(False, (2,))
        self.set_is(False, (0, 1, 2))
        self.set_is(False, (0,), factor=(3, 1))
        self.set_is(False, (0,), rest=(1, 3))
        self.set_is(False, (0, 1, 2), ALL)
        self.set_is(False, (0, 1, 2), (), rest=WHOLE)

    def test_a_partner_of_several_counts_once(self):
        # Both may be paired with 1 alone, whose share is 1/3: 5/6 against 1/3 and 1/2 is no more.
        pairs = ((0, 1), (1, 1))
        self.set_is(False, (0, 1), pairs, rest=HALF)
        self.set_is(True, (0, 1), pairs, rest=(49, 100))

    def test_all_partners_of_one_count(self):
        self.set_is(True, (0,), ((0, 0), (1, 1)))
        self.set_is(False, (0,), ((0, 0), (0, 1)))
        self.set_is(False, (0,), ((0, 1), (0, 2)))

    def test_answers_that_the_one_lacks(self):
        self.set_is(False, (0, 3))
        self.set_is(False, (-1, 0))
        self.set_is(False, (3,), ())
        self.set_is(False, (0, 1, 2, 3), ())

    def test_answers_of_another_sort(self):
        self.set_is(False, ((0,),), ())
        self.set_is(False, (0, (1,)), ())
        self.set_is(False, ((0,), 1), ())
        self.set_is(False, (0, (), 1, 2), ())
        table = (((0, 1), HALF), ((0, 2), HALF))
        for answers in ((0,), (0, (0, 1)), ((0, 1), 0), ((0,), (0, 1)), ((0, 1), (0, 1, 2))):
            self.assertIs(shows(table, table, (), WHOLE, NONE, ("broken", answers)), False)
        self.assertIs(shows(table, table, (), WHOLE, NONE, ("broken", ((0, 1), (0, 2)))), True)

    def test_answers_twice_or_not_rising(self):
        self.set_is(False, (0, 0))
        self.set_is(False, (0, 1, 1), ())
        self.set_is(False, (1, 0))
        self.set_is(False, (0, 2, 1), ())
        self.set_is(False, (2, 1, 0), ())
        self.set_is(False, (2, 2), ())

    def test_other_words(self):
        for word in ("", "pair", "Paired", "pairing", "paired ", "break", "open", "broken\n"):
            self.assertIs(shows(ONE, OTHER, ALL, WHOLE, NONE, (word, self.RIGHT)), False)
            self.assertIs(shows(ONE, OTHER, ALIKE, WHOLE, NONE, (word, (0,))), False)

    def test_never_both(self):
        for seed in range(120):
            one, other, pairs = make_case(seed, 5)
            factor = FACTORS[seed % len(FACTORS)]
            for rest in (NONE, (1, 4), (3, 4)):
                case = (one, other, pairs, factor, rest)
                answers = [x for x, _ in one]
                sets = [chosen for many in range(len(answers) + 1)
                        for chosen in itertools.combinations(answers, many)]
                breaking = [chosen for chosen in sets if shows(*case, ("broken", chosen))]
                self.assertEqual(breaking, [chosen for chosen in sets if gap(*case[:4], chosen) > Fraction(*rest)])
                self.assertEqual(bool(breaking), paired(*case)[0] == "broken")

    def test_many_pairings(self):
        seen = {True: 0, False: 0}
        for seed in range(400):
            dice = random.Random(seed)
            one, other, pairs = make_case(seed, 3)
            factor = FACTORS[seed % len(FACTORS)]
            every = list(itertools.product([x for x, _ in one], [y for y, _ in other]))
            pairing = paired(one, other, pairs, factor, WHOLE)[1]
            for key in dice.sample(every, dice.randrange(2)):
                pairing[key] = dice.choice((NONE, (1, 50), HALF, WHOLE))
            for rest in (NONE, HALF, WHOLE):
                wanted = is_pairing(one, other, pairs, factor, rest, pairing)
                self.assertIs(shows(one, other, pairs, factor, rest, ("paired", pairing)), wanted)
                seen[wanted] += 1
        self.assertGreater(min(seen.values()), 100)


if __name__ == "__main__":
    unittest.main()
