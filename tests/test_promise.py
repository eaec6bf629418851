"""The whole promise (point 3), over drawn programs and crowds."""

import random
import unittest
from fractions import Fraction

import programs
from pairedthrows.errors import TooMany
from pairedthrows.least import least_factor_of, least_rest_of
from pairedthrows.looker import look
from pairedthrows.papers import paper_of, paper_shows
from pairedthrows.prices import greatest_price, price
from pairedthrows.runs import told_table

FREE = ((1, 1), (0, 1))
MANY = [programs.right_program(seed) for seed in range(300)]
LOW = [programs.right_program(seed, programs.low_throw) for seed in range(150)]
FLAT = [programs.right_program(seed, programs.flat_throw) for seed in range(60)]


def draw_crowd(dice, kinds):
    return tuple(dice.choice((0, 0, 0, 1, 1, 2, 3, 5, 10 ** 6 - 1)) for _ in kinds)


def neighbour_tables(program, kind, crowd):
    """The told tables of the crowd and of the one with a member more, None where they have too many runs."""
    try:
        return [told_table(program, each) for each in (crowd, programs.one_more(crowd, kind))]
    except TooMany:
        return None


def greater_paper(dice, program, kind):
    """A paper that is let by, whose lines show more than is due here and there."""
    return programs.own_paper(program, kind, lambda: dice.choice((0, 0, 0, Fraction(1, 99))))


def with_row(dice, program, row):
    """The program with one row more, somewhere among its outer rows."""
    at = dice.randrange(len(program[1]) + 1)
    return (program[0], program[1][:at] + (row,) + program[1][at:])


class PricesHold(unittest.TestCase):
    def holds(self, program, kind, crowd, shown):
        """Whatever set of answers: its share is at most the factor times its share for the other, and the rest more."""
        tables = neighbour_tables(program, kind, crowd)
        if tables is None:
            return 0
        one, other = tables
        for x, y in ((one, other), (other, one)):
            self.assertLessEqual(programs.rest_between(x, y, shown[0]), Fraction(*shown[1]), (program, kind, crowd))
        return one != other

    def test_prices_hold_for_every_crowd(self):
        dice = random.Random(3)
        moved = 0
        for program in MANY + LOW + FLAT:
            for kind in range(len(program[0])):
                shown = price(program, kind)
                for _ in range(6):
                    moved += self.holds(program, kind, draw_crowd(dice, program[0]), shown)
        self.assertGreater(moved, 200)

    def test_the_greatest_price_holds_for_every_kind(self):
        dice = random.Random(4)
        for program in LOW:
            shown = greatest_price(program)
            for kind in range(len(program[0])):
                self.holds(program, kind, draw_crowd(dice, program[0]), shown)

    def test_every_paper_that_is_let_by_holds(self):
        dice = random.Random(5)
        moved, greater = 0, 0
        for program in LOW + FLAT:
            for kind in range(len(program[0])):
                for paper in (paper_of(program, kind), greater_paper(dice, program, kind)):
                    shown = paper_shows(program, kind, paper)
                    greater += shown != price(program, kind)
                    for _ in range(4):
                        moved += self.holds(program, kind, draw_crowd(dice, program[0]), shown)
        self.assertGreater(moved, 150)
        self.assertGreater(greater, 200)

    def test_each_sort_of_throw_holds_by_itself(self):
        dice = random.Random(6)
        moved = 0
        for _ in range(2500):
            kinds = ("a", "b", "c")[:dice.randrange(1, 4)]
            row = programs.make_throw(dice, kinds)
            low, high = sorted(row[-2:])
            if row[0] == "first":
                low, high = (low, high) if low < high else (low // 2, high // 2 + 1)
                row = row[:2] + (dice.randrange(low, high + 1), row[3], dice.choice(((1, 2), (1, 3), (1, 9)))) + row[5:]
            program = (kinds, (row[:-2] + (low, high), ("tell", ("name", row[1]))))
            self.assertTrue(look(program))
            kind = dice.randrange(len(kinds))
            moved += self.holds(program, kind, draw_crowd(dice, kinds), price(program, kind))
        self.assertGreater(moved, 300)


class NothingSpent(unittest.TestCase):
    def test_kinds_that_a_throw_does_not_ask_for(self):
        dice = random.Random(7)
        for program in MANY + LOW:
            kind = dice.randrange(len(program[0]))
            row = programs.low_throw(dice, program[0])
            silent = tuple(0 if other == kind else 3 for other in range(len(program[0])))
            place = 5 if row[0] == "first" else 2
            row = row[:place] + (silent if row[0] in ("ladder", "flat") else (silent,) * 2,) + row[place + 1:]
            more = with_row(dice, (program[0], program[1] + (("tell", ("num", 1)),)), row)
            self.assertEqual(price(more, kind), price(program, kind))

    def test_programs_of_kinds_that_are_not_asked_for(self):
        dice = random.Random(8)
        for program in LOW:
            kind = len(program[0])
            if kind == 3:
                continue
            wider = (program[0] + ("zz",), widened(program[1]))
            self.assertEqual(price(wider, kind), FREE)
            crowd = draw_crowd(dice, wider[0])
            tables = neighbour_tables(wider, kind, crowd)
            if tables is not None:
                self.assertEqual(tables[0], tables[1])

    def test_throws_whose_names_are_not_needed(self):
        dice = random.Random(9)
        compared = 0
        for program in MANY + LOW:
            row = programs.low_throw(dice, program[0])
            more = with_row(dice, program, row[:1] + ("idle",) + row[2:])
            self.assertTrue(look(more))
            for kind in range(len(program[0])):
                self.assertEqual(price(more, kind), price(program, kind))
            crowd = draw_crowd(dice, program[0])
            one, other = (neighbour_tables(each, 0, crowd) for each in (program, more))
            if one is not None and other is not None:
                self.assertEqual(one, other)
                compared += 1
        self.assertGreater(compared, 200)

    def test_what_is_done_with_answers(self):
        dice = random.Random(10)
        for program in LOW:
            tells = tuple((("tell", ("num", number)),) for number in (1, 2))
            rows = (("let", "done", ("num", 3)), ("when", ("name", "done")) + tells)
            done = (program[0], program[1] + rows)
            for kind in range(len(program[0])):
                self.assertEqual(price(done, kind), price(program, kind))
            kind = dice.randrange(len(program[0]))
            try:
                least = least_factor_of(program, kind)[0]
                self.assertEqual(least_factor_of(done, kind)[0], least)
                self.assertEqual(least_rest_of(done, kind, (1, 1))[0], least_rest_of(program, kind, (1, 1))[0])
            except TooMany:
                continue

    def test_all_noes_ahead_of_the_first_yes_spend_once(self):
        for many in range(1, 5):
            row = ("first", "x", 1, (1, 2), (1, 3), ((1,),) * many, 0, 4)
            program = (("a",), (row, ("tell", ("name", "x"))))
            self.assertEqual(price(program, 0), ((18, 1), (1, 6)))
            self.assertLessEqual(Fraction(*least_rest_of(program, 0, (18, 1))[0]), Fraction(1, 6))


def widened(rows):
    """The rows with a weight of 0 more in each sum."""
    told = []
    for row in rows:
        if row[0] in programs.THROWS:
            place = 5 if row[0] == "first" else 2
            sums = row[place] + (0,) if row[0] in ("ladder", "flat") else tuple(one + (0,) for one in row[place])
            row = row[:place] + (sums,) + row[place + 1:]
        elif row[0] in ("when", "times"):
            row = row[:2] + tuple(widened(inner) for inner in row[2:])
        told.append(row)
    return tuple(told)


if __name__ == "__main__":
    unittest.main()
