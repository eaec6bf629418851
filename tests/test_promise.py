"""The whole promise (point 3), over drawn programs and crowds."""

import random
import unittest
from fractions import Fraction

import programs
from pairedthrows.again import rows_between, thrown_again
from pairedthrows.compared import breaking, least_rest
from pairedthrows.crowds import tops
from pairedthrows.errors import NoRows, TooMany
from pairedthrows.holds import holds
from pairedthrows.least import least_factor_of, least_rest_of
from pairedthrows.looker import look
from pairedthrows.paired import paired, shows
from pairedthrows.papers import paper_of, paper_shows
from pairedthrows.prices import greatest_price, price
from pairedthrows.runs import told_table
from pairedthrows.throws import thrown
from pairedthrows.together import behind, beside, exchanged

FREE = ((1, 1), (0, 1))
MANY = [programs.right_program(seed) for seed in range(300)]
LOW = [programs.right_program(seed, programs.low_throw) for seed in range(150)]
FLAT = [programs.right_program(seed, programs.flat_throw) for seed in range(60)]


def draw_crowd(dice, kinds):
    return tuple(dice.choice((0, 0, 0, 1, 1, 2, 3, 5, 10 ** 6 - 1)) for _ in kinds)


def neighbour_tables(program, kind, crowd):
    """The told tables of the crowd and of the one with a member more, None where they have too many runs."""
    try:
        return [told_table(program, each) for each in (crowd, programs.one_more(crowd, kind))]
    except TooMany:
        return None


def greater_paper(dice, program, kind):
    """A paper that is let by, whose lines show more than is due here and there."""
    return programs.own_paper(program, kind, lambda: dice.choice((0, 0, 0, Fraction(1, 99))))


def with_row(dice, program, row):
    """The program with one row more, somewhere among its outer rows."""
    at = dice.randrange(len(program[1]) + 1)
    return (program[0], program[1][:at] + (row,) + program[1][at:])


def of_kinds(program, kinds):
    """The program of other kinds, perhaps of more of them, which it doesn't ask for."""
    return (kinds, programs.wide(program[1], (), (0,) * (len(kinds) - len(program[0]))))


class PricesHold(unittest.TestCase):
    def holds(self, program, kind, crowd, shown):
        """Whatever set of answers: its share is at most the factor times its share for the other, and the rest more."""
        tables = neighbour_tables(program, kind, crowd)
        if tables is None:
            return 0
        one, other = tables
        for x, y in ((one, other), (other, one)):
            self.assertLessEqual(programs.rest_between(x, y, shown[0]), Fraction(*shown[1]), (program, kind, crowd))
        return one != other

    def test_prices_hold_for_every_crowd(self):
        dice = random.Random(3)
        moved = 0
        for program in MANY + LOW + FLAT:
            for kind in range(len(program[0])):
                shown = price(program, kind)
                for _ in range(6):
                    moved += self.holds(program, kind, draw_crowd(dice, program[0]), shown)
        self.assertGreater(moved, 200)

    def test_the_greatest_price_holds_for_every_kind(self):
        dice = random.Random(4)
        for program in LOW:
            shown = greatest_price(program)
            for kind in range(len(program[0])):
                self.holds(program, kind, draw_crowd(dice, program[0]), shown)

    def test_every_paper_that_is_let_by_holds(self):
        dice = random.Random(5)
        moved, greater = 0, 0
        for program in LOW + FLAT:
            for kind in range(len(program[0])):
                for paper in (paper_of(program, kind), greater_paper(dice, program, kind)):
                    shown = paper_shows(program, kind, paper)
                    greater += shown != price(program, kind)
                    for _ in range(4):
                        moved += self.holds(program, kind, draw_crowd(dice, program[0]), shown)
        self.assertGreater(moved, 150)
        self.assertGreater(greater, 200)

    def test_each_sort_of_throw_holds_by_itself(self):
        dice = random.Random(6)
        moved = 0
        for _ in range(2500):
            kinds = ("a", "b", "c")[:dice.randrange(1, 4)]
            row = programs.make_throw(dice, kinds)
            low, high = sorted(row[-2:])
            if row[0] == "first":
                low, high = (low, high) if low < high else (low // 2, high // 2 + 1)
                row = row[:2] + (dice.randrange(low, high + 1), row[3], dice.choice(((1, 2), (1, 3), (1, 9)))) + row[5:]
            program = (kinds, (row[:-2] + (low, high), ("tell", ("name", row[1]))))
            self.assertTrue(look(program))
            kind = dice.randrange(len(kinds))
            moved += self.holds(program, kind, draw_crowd(dice, kinds), price(program, kind))
        self.assertGreater(moved, 300)


class NothingSpent(unittest.TestCase):
    def test_kinds_that_a_throw_does_not_ask_for(self):
        dice = random.Random(7)
        for program in MANY + LOW:
            kind = dice.randrange(len(program[0]))
            row = programs.low_throw(dice, program[0])
            silent = tuple(0 if other == kind else 3 for other in range(len(program[0])))
            place = 5 if row[0] == "first" else 2
            row = row[:place] + (silent if row[0] in ("ladder", "flat") else (silent,) * 2,) + row[place + 1:]
            more = with_row(dice, (program[0], program[1] + (("tell", ("num", 1)),)), row)
            self.assertEqual(price(more, kind), price(program, kind))

    def test_programs_of_kinds_that_are_not_asked_for(self):
        dice = random.Random(8)
        for program in LOW:
            kind = len(program[0])
            if kind == 3:
                continue
            wider = of_kinds(program, program[0] + ("zz",))
            self.assertEqual(price(wider, kind), FREE)
            crowd = draw_crowd(dice, wider[0])
            tables = neighbour_tables(wider, kind, crowd)
            if tables is not None:
                self.assertEqual(tables[0], tables[1])

    def test_throws_whose_names_are_not_needed(self):
        dice = random.Random(9)
        compared = 0
        for program in MANY + LOW:
            row = programs.low_throw(dice, program[0])
            more = with_row(dice, program, row[:1] + ("idle",) + row[2:])
            self.assertTrue(look(more))
            for kind in range(len(program[0])):
                self.assertEqual(price(more, kind), price(program, kind))
            crowd = draw_crowd(dice, program[0])
            one, other = (neighbour_tables(each, 0, crowd) for each in (program, more))
            if one is not None and other is not None:
                self.assertEqual(one, other)
                compared += 1
        self.assertGreater(compared, 200)

    def test_what_is_done_with_answers(self):
        dice = random.Random(10)
        for program in LOW:
            tells = tuple((("tell", ("num", number)),) for number in (1, 2))
            rows = (("let", "done", ("num", 3)), ("when", ("name", "done")) + tells)
            done = (program[0], program[1] + rows)
            for kind in range(len(program[0])):
                self.assertEqual(price(done, kind), price(program, kind))
            kind = dice.randrange(len(program[0]))
            try:
                least = least_factor_of(program, kind)[0]
                self.assertEqual(least_factor_of(done, kind)[0], least)
                self.assertEqual(least_rest_of(done, kind, (1, 1))[0], least_rest_of(program, kind, (1, 1))[0])
            except TooMany:
                continue

    def test_all_noes_ahead_of_the_first_yes_spend_once(self):
        for many in range(1, 5):
            row = ("first", "x", 1, (1, 2), (1, 3), ((1,),) * many, 0, 4)
            program = (("a",), (row, ("tell", ("name", "x"))))
            self.assertEqual(price(program, 0), ((18, 1), (1, 6)))
            self.assertLessEqual(Fraction(*least_rest_of(program, 0, (18, 1))[0]), Fraction(1, 6))


class PutTogether(unittest.TestCase):
    def test_one_behind_another(self):
        dice = random.Random(11)
        for one, other in zip(LOW, LOW[3:]):
            kinds = ("a", "b", "c")[:max(len(one[0]), len(other[0]))]
            one, other = (of_kinds(each, kinds) for each in (one, other))
            told = behind(one, other)
            for kind in range(len(kinds)):
                (f, r), (g, s) = price(one, kind), price(other, kind)
                wanted = Fraction(*f) * Fraction(*g), Fraction(*r) + Fraction(*s)
                self.assertEqual(price(told, kind), tuple(map(programs.pair, wanted)))
                PricesHold.holds(self, told, kind, draw_crowd(dice, kinds), price(told, kind))

    def test_one_beside_another(self):
        dice = random.Random(12)
        compared = 0
        for one, other in zip(LOW + FLAT, LOW[5:] + FLAT + LOW[:5]):
            if len(one[0]) + len(other[0]) > 3:
                continue
            one, other = (("a", "b")[:len(one[0])], one[1]), (("c", "d")[:len(other[0])], other[1])
            told = beside(one, other)
            for kind in range(len(told[0])):
                alone = (one, kind) if kind < len(one[0]) else (other, kind - len(one[0]))
                self.assertEqual(price(told, kind), price(*alone))
                PricesHold.holds(self, told, kind, draw_crowd(dice, told[0]), price(told, kind))
                factor = dice.choice(((1, 1), (3, 2), (2, 1)))
                try:
                    self.assertEqual(least_factor_of(told, kind)[0], least_factor_of(*alone)[0])
                    self.assertEqual(least_rest_of(told, kind, factor)[0], least_rest_of(*alone, factor)[0])
                    compared += 1
                except TooMany:
                    continue
        self.assertGreater(compared, 60)


class TheLeast(unittest.TestCase):
    def test_it_is_met_and_no_crowd_has_more(self):
        dice = random.Random(13)
        told = {"met": 0, "none": 0, "nobody": 0}
        for program in LOW[:80] + FLAT:
            kind = dice.randrange(len(program[0]))
            try:
                factor, one, other, answers = least_factor_of(program, kind)
            except TooMany:
                continue
            if tops(program)[kind] == 0:
                nobody = (0,) * len(program[0])
                self.assertEqual((factor, one, other, answers), ((1, 1), nobody, nobody, ()))
                told["nobody"] += 1
                continue
            shares, others = (dict(told_table(program, crowd)) for crowd in (one, other))
            if factor is None:
                self.assertNotIn(answers[0], others)
                self.assertIn(answers[0], shares)
                told["none"] += 1
                continue
            self.assertEqual(Fraction(*shares[answers[0]]), Fraction(*factor) * Fraction(*others[answers[0]]))
            shown = price(program, kind)
            if shown[1] == (0, 1):
                self.assertLessEqual(Fraction(*factor), Fraction(*shown[0]))
            for _ in range(10):
                tables = neighbour_tables(program, kind, draw_crowd(dice, program[0]))
                if tables is not None:
                    self.assertEqual(programs.rest_between(*tables, factor), 0)
                    self.assertEqual(programs.rest_between(*reversed(tables), factor), 0)
            told["met"] += 1
        self.assertGreater(min(told.values()), 5, told)

    def test_the_rest_is_met_and_no_crowd_has_more(self):
        dice = random.Random(14)
        for program in LOW[:80] + FLAT:
            kind = dice.randrange(len(program[0]))
            factor = dice.choice(((1, 1), (11, 10), (3, 2), (2, 1)))
            try:
                rest, one, other, answers = least_rest_of(program, kind, factor)
            except TooMany:
                continue
            shares, others = (dict(told_table(program, crowd)) for crowd in (one, other))
            share = sum((Fraction(*shares[answer]) for answer in answers), Fraction(0))
            against = sum((Fraction(*others.get(answer, (0, 1))) for answer in answers), Fraction(0))
            self.assertEqual(share - Fraction(*factor) * against, Fraction(*rest))
            for _ in range(10):
                tables = neighbour_tables(program, kind, draw_crowd(dice, program[0]))
                if tables is not None:
                    self.assertLessEqual(programs.rest_between(*tables, factor), Fraction(*rest))
                    self.assertLessEqual(programs.rest_between(*reversed(tables), factor), Fraction(*rest))


class TwoTables(unittest.TestCase):
    def test_just_one_of_both_is_told(self):
        dice = random.Random(15)
        words = {"paired": 0, "broken": 0}
        for program in LOW + FLAT:
            tables = neighbour_tables(program, 0, draw_crowd(dice, program[0]))
            if tables is None or max(map(len, tables)) > 12:
                continue
            one, other = tables
            pairs = tuple((answer, answer) for answer in sorted(set(dict(one)) & set(dict(other))))
            for factor in ((1, 1), (3, 2), (2, 1)):
                least = Fraction(*least_rest(one, other, factor))
                for rest in (least, least - Fraction(1, 10 ** 9)):
                    if rest >= 0:
                        told = paired(one, other, pairs, factor, programs.pair(rest))
                        self.assertEqual(told[0], "paired" if rest == least else "broken")
                        self.assertIs(shows(one, other, pairs, factor, programs.pair(rest), told), True)
                        set_told = ("broken", breaking(one, other, factor))
                        self.assertIs(shows(one, other, pairs, factor, programs.pair(rest), set_told), rest < least)
                        words[told[0]] += 1
        self.assertGreater(min(words.values()), 20, words)


class LessSteep(unittest.TestCase):
    def test_it_is_the_steeper_one_thrown_again(self):
        dice = random.Random(16)
        for _ in range(150):
            a, b = sorted((dice.choice(programs.STEEPNESSES) for _ in range(2)), key=lambda one: Fraction(*one))
            low = dice.randrange(10)
            high = dice.randrange(low, 10)
            rows = rows_between(a, b, low, high)
            row = ("ladder", "x", (1,), a, low, high)
            less_steep = exchanged((("a",), (row, ("tell", ("name", "x")))), 0, b)[1][0]
            # The rows are told once: they don't hang on the count.
            for count in range(low, high + 1):
                self.assertEqual(thrown_again(thrown(row, (count,)), low, rows), thrown(less_steep, (count,)))
            if a != b:
                with self.assertRaises(NoRows):
                    rows_between(b, a, low, high)


class WhetherItHolds(unittest.TestCase):
    def test_never_a_wrong_one(self):
        dice = random.Random(17)
        words = {"paper": 0, "breaks": 0, "open": 0}
        for program in LOW + FLAT:
            for kind in range(len(program[0])):
                factor = dice.choice(((1, 1), (3, 2), (2, 1), price(program, kind)[0]))
                rest = dice.choice(((0, 1), (1, 20), (1, 3), (1, 1), price(program, kind)[1]))
                try:
                    told = holds(program, kind, factor, rest)
                except TooMany:
                    continue
                words[told[0]] += 1
                if told[0] == "breaks":
                    shares, others = (dict(told_table(program, crowd)) for crowd in told[1:3])
                    share = sum(Fraction(*shares[answer]) for answer in told[3])
                    against = sum((Fraction(*others.get(answer, (0, 1))) for answer in told[3]), Fraction(0))
                    self.assertGreater(share, Fraction(*factor) * against + Fraction(*rest))
                    continue
                if told[0] == "paper":
                    self.assertIsNotNone(paper_shows(program, kind, told[1]))
                # Open is told where it holds up to the tops, though no paper says so.
                for _ in range(3):
                    PricesHold.holds(self, program, kind, draw_crowd(dice, program[0]), (factor, rest))
        self.assertGreater(min(words.values()), 20, words)


if __name__ == "__main__":
    unittest.main()
