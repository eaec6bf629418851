"""Prices (points 25, 26 and 27), against a reckoning of the tests' own by Python's fractions."""

import itertools
import unittest
from fractions import Fraction

import programs
from pairedthrows.prices import greatest_price, price, price_of_row
from pairedthrows.reader import read

FREE = ((1, 1), (0, 1))
STEEPNESSES = [(p, q) for q in range(2, 10) for p in range(1, q) if Fraction(p, q).denominator == q]
SHALLOW = [a for a in STEEPNESSES if 2 * a[0] <= a[1]]
MANY = [programs.right_program(seed) for seed in range(500)]


def row_of(text, kinds="a b"):
    return read(f"kinds {kinds}\n{text}")[1][0]


class PriceOfRow(unittest.TestCase):
    def told(self, row, kind):
        wanted = tuple(map(programs.pair, programs.row_price(row, kind)))
        for _ in range(2):
            self.assertEqual(price_of_row(row, kind), wanted, (row, kind))
        return wanted

    def test_a_ladder_by_hand(self):
        for weight, factor in ((1, (3, 2)), (2, (9, 4)), (3, (27, 8))):
            row = row_of("ladder x 2/3 0 5 of" + " b" * weight)
            self.assertEqual(price_of_row(row, 1), (factor, (0, 1)))
            self.assertEqual(price_of_row(row, 0), FREE)

    def test_a_choose_by_hand(self):
        row = row_of("choose x 1/2 0 5 of a | a a a b | -")
        self.assertEqual(price_of_row(row, 0), ((8, 1), (0, 1)))
        self.assertEqual(price_of_row(row, 1), ((2, 1), (0, 1)))
        self.assertEqual(price_of_row(row_of("choose x 1/2 0 5 of - | b"), 0), FREE)

    def test_a_flat_by_hand(self):
        for r, weight, rest in ((0, 1, (1, 1)), (0, 2, (1, 1)), (0, 3, (1, 1)), (1, 1, (1, 3)), (1, 2, (2, 3)),
                                (1, 3, (1, 1)), (2, 3, (3, 5)), (4, 1, (1, 9)), (4, 3, (1, 3))):
            row = row_of(f"flat x {r} 0 5 of" + " a" * weight)
            self.assertEqual(price_of_row(row, 0), ((1, 1), rest))
            self.assertEqual(price_of_row(row, 1), FREE)

    def test_a_first_by_hand(self):
        # high - w - mark is 2, 0, -1 and -3: above, at and below 0.
        for mark, weight, factor, rest in ((2, 1, (18, 1), (1, 6)), (4, 1, (18, 1), (2, 3)), (5, 1, (18, 1), (5, 6)),
                                           (5, 3, (5832, 1), (23, 24))):
            row = row_of(f"first x {mark} 1/2 1/3 0 5 of -" + " | b |" + " a" * weight)
            self.assertEqual(price_of_row(row, 0), (factor, rest))
        self.assertEqual(price_of_row(row, 1), ((18, 1), (5, 6)))
        self.assertEqual(price_of_row(row_of("first x 1 1/2 1/3 0 5 of b"), 0), FREE)

    def test_ladders_and_chooses_of_all_steepnesses(self):
        for a, weight in itertools.product(STEEPNESSES, range(4)):
            self.told(("ladder", "x", (weight, 1), a, 0, 5), 0)
            self.told(("choose", "x", ((weight, 1), (1, 0), (0, 2)), a, 0, 5), 0)
            self.assertEqual(self.told(("choose", "x", ((weight, 1), (1, 0), (0, 2)), a, 3, 4), 1)[1], (0, 1))

    def test_flat_ones_of_all_numbers(self):
        for r, weight in itertools.product(range(5), range(4)):
            self.told(("flat", "x", (3, weight), r, 2, 9), 1)

    def test_firsts_of_all_marks(self):
        seen = set()
        for low, high in itertools.combinations(range(10), 2):
            for mark, weight in itertools.product(range(low, high + 1), range(4)):
                a, b = STEEPNESSES[(mark + weight) % len(STEEPNESSES)], SHALLOW[(high + weight) % len(SHALLOW)]
                self.told(("first", "x", mark, a, b, ((0,), (weight,), (weight // 2,)), low, high), 0)
                seen.add((high - weight - mark > 0) - (high - weight - mark < 0))
        self.assertEqual(seen, {-1, 0, 1})

    def test_firsts_of_all_steepnesses(self):
        for a, b in itertools.product(STEEPNESSES, SHALLOW):
            self.told(("first", "x", 4, a, b, ((1,), (2,)), 1, 7), 0)

    def test_the_greatest_of_several_sums_wherever_it_stands(self):
        for sums in itertools.permutations(((0, 3), (1, 0), (2, 1), (0, 0))):
            row = ("choose", "x", sums, (2, 3), 0, 9)
            self.assertEqual([self.told(row, kind)[0] for kind in (0, 1)], [(9, 4), (27, 8)])
            row = ("first", "x", 1, (2, 3), (1, 3), sums, 0, 9)
            self.assertEqual([self.told(row, kind)[0] for kind in (0, 1)], [(729, 4), (19683, 8)])

    def test_low_and_high_count_for_a_first_alone(self):
        for text in ("ladder x 1/2 {} {} of a", "flat x 1 {} {} of a", "choose x 1/2 {} {} of a"):
            told = {price_of_row(row_of(text.format(low, high)), 0) for low, high in ((0, 9), (4, 4), (0, 0), (9, 9))}
            self.assertEqual(len(told), 1)
            self.assertNotEqual(told, {FREE})

    def test_a_let_and_a_tell(self):
        for row in (("let", "x", ("num", 1)), ("tell", ("num", 1)), ("tell", ("op", "+", ("name", "x"), ("num", 2)))):
            self.assertEqual(price_of_row(row, 0), FREE)

    def test_a_throw_that_is_idle_in_its_program_has_its_price_too(self):
        program = read("kinds a\nladder x 1/2 0 5 of a\ntell 1")
        self.assertEqual(price_of_row(program[1][0], 0), ((2, 1), (0, 1)))
        self.assertEqual(price(program, 0), FREE)

    def test_each_row_of_many(self):
        for program in MANY[:200]:
            for row in programs.inner_first(program[1]):
                for kind in range(len(program[0])):
                    if row[0] not in ("when", "times"):
                        self.told(row, kind)


class Price(unittest.TestCase):
    def told(self, text, factor, rest, kinds="a", kind=0):
        program = read(f"kinds {kinds}\n{text}")
        self.assertEqual(programs.program_price(program, kind), (factor, rest))
        for _ in range(2):
            self.assertEqual(price(program, kind), (factor, rest))

    def test_of_no_throw(self):
        self.told("tell 1", (1, 1), (0, 1))
        self.told("let x 1\nwhen x\nelse\nend\ntimes 3\nend\ntell x", (1, 1), (0, 1))

    def test_rows_one_behind_the_other(self):
        self.told("ladder x 1/2 0 5 of a\nladder y 2/3 0 5 of a a\ntell (+ x y)", (9, 2), (0, 1))
        self.told("flat x 1 0 5 of a\nflat y 2 0 5 of a\ntell (+ x y)", (1, 1), (8, 15))
        self.told("ladder x 1/2 0 5 of a\nflat y 2 0 5 of a\nfirst z 2 1/2 1/3 0 5 of a\ntell (+ x (+ y z))",
                  (36, 1), (11, 30))

    def test_each_kind_has_its_own(self):
        text = "ladder x 1/2 0 5 of a b b\nflat y 2 0 5 of b\ntell (+ x y)"
        self.told(text, (2, 1), (0, 1), "a b c", 0)
        self.told(text, (4, 1), (1, 5), "a b c", 1)
        self.told(text, (1, 1), (0, 1), "a b c", 2)

    def test_a_when_has_the_greater_of_both(self):
        for one, other in itertools.permutations(("ladder x 1/3 0 5 of a", "flat x 2 0 5 of a")):
            self.told(f"when 1\n{one}\nelse\n{other}\nend\ntell x", (3, 1), (1, 5))
        self.told("when 1\nladder x 1/3 0 5 of a\nelse\nladder x 1/2 0 5 of a\nladder x 2/3 0 5 of a\nend\ntell x",
                  (3, 1), (0, 1))
        self.told("when 0\ntell 2\nelse\nladder x 1/2 0 5 of a\ntell x\nend", (2, 1), (0, 1))
        self.told("when 0\nladder x 1/2 0 5 of a\ntell x\nelse\ntell 2\nend", (2, 1), (0, 1))

    def test_a_times(self):
        for k, factor, rest in ((1, (3, 2), (1, 3)), (2, (9, 4), (2, 3)), (3, (27, 8), (1, 1))):
            self.told(f"times {k}\nladder x 2/3 0 5 of a\nflat y 1 0 5 of a\ntell (+ x y)\nend", factor, rest)

    def test_whens_within_times_and_the_other_way_about(self):
        self.told("times 2\nwhen 1\nladder x 1/2 0 5 of a\nelse\nflat x 1 0 5 of a\nend\ntell x\nend", (4, 1), (2, 3))
        self.told("when 1\ntimes 2\nladder x 1/2 0 5 of a\nend\nelse\ntimes 3\nflat x 3 0 5 of a\nend\nend\ntell x",
                  (4, 1), (3, 7))
        self.told("times 3\ntimes 2\nwhen 1\ntimes 2\nladder x 2/3 0 5 of a\nend\nelse\nladder x 1/2 0 5 of a\nend\n"
                  "tell x\nend\nend", programs.pair(Fraction(9, 4) ** 6), (0, 1))
        self.told("when 1\nwhen 0\nladder x 1/2 0 5 of a\nelse\nladder x 1/5 0 5 of a\nend\nelse\n"
                  "flat x 2 0 5 of a\nend\ntell x", (5, 1), (1, 5))

    def test_idle_rows_are_free(self):
        for throw in ("ladder y 1/2 0 5 of a", "flat y 1 0 5 of a", "choose y 1/2 0 5 of a",
                      "first y 1 1/2 1/2 0 5 of a"):
            self.told(f"{throw}\nladder x 1/3 0 5 of a\n{throw}\ntell x", (3, 1), (0, 1))
            self.told(f"ladder x 1/3 0 5 of a\nwhen x\n{throw}\nelse\nend\ntimes 3\n{throw}\nend\ntell x",
                      (3, 1), (0, 1))

    def test_idle_by_way_of_lets_alone(self):
        throws = "ladder x 1/3 0 5 of a\nladder y 1/2 0 5 of a\n"
        self.told(throws + "let z (+ y 1)\nlet u (* z z)\ntell x", (3, 1), (0, 1))
        self.told(throws + "let z (+ y 1)\nlet u (* z z)\ntell (+ u x)", (6, 1), (0, 1))
        self.told(throws + "let y (+ y 1)\ntell x", (3, 1), (0, 1))

    def test_a_name_needed_anywhere_costs_everywhere(self):
        self.told("ladder x 1/3 0 5 of a\nlet x 1\ntell x", (3, 1), (0, 1))
        self.told("let x 1\ntell x\nladder x 1/3 0 5 of a", (3, 1), (0, 1))

    def test_rests_above_1_stay_so(self):
        self.told("times 3\nflat x 0 0 5 of a\ntell x\nend", (1, 1), (3, 1))
        self.told("times 3\ntimes 3\ntimes 3\nflat x 1 0 5 of a a\ntell x\nend\nend\nend", (1, 1), (18, 1))

    def test_the_greatest_that_the_bounds_let(self):
        firsts = "first x 9 1/9 1/9 0 9 of a a a\n" * 8
        program = read(f"kinds a\ntimes 3\ntimes 3\ntimes 3\n{firsts}tell x\nend\nend\nend")
        factor, rest = price(program, 0)
        self.assertEqual(factor, (9 ** (9 * 8 * 27), 1))
        self.assertEqual((factor, rest), programs.program_price(program, 0))

    def test_rows_deeper_than_the_bounds(self):
        rows = (("ladder", "x", (1,), (1, 2), 0, 5), ("tell", ("name", "x")))
        for _ in range(300):
            rows = (("times", 1, rows),)
        self.assertEqual(price((("a",), rows), 0), ((2, 1), (0, 1)))

    def test_many(self):
        seen = set()
        for program in MANY:
            for kind in range(len(program[0])):
                wanted = programs.program_price(program, kind)
                for _ in range(2):
                    self.assertEqual(price(program, kind), wanted, program)
                seen.add((wanted[0] != (1, 1), wanted[1] != (0, 1), Fraction(*wanted[1]) > 1))
        self.assertEqual(len(seen), 6)


class GreatestPrice(unittest.TestCase):
    def test_factor_and_rest_of_unlike_kinds(self):
        program = read("kinds a b c\nladder x 1/2 0 5 of a a\nflat y 1 0 5 of b b\nladder z 2/3 0 5 of c\n"
                       "tell (+ x (+ y z))")
        for _ in range(2):
            self.assertEqual(greatest_price(program), ((4, 1), (2, 3)))

    def test_of_one_kind(self):
        self.assertEqual(greatest_price(read("kinds a\nladder x 1/2 0 5 of a\ntell x")), ((2, 1), (0, 1)))
        self.assertEqual(greatest_price(read("kinds a\ntell 1")), FREE)

    def test_many(self):
        mixed = 0
        for program in MANY:
            prices = [programs.program_price(program, kind) for kind in range(len(program[0]))]
            factor = max(Fraction(*one[0]) for one in prices)
            rest = max(Fraction(*one[1]) for one in prices)
            told = greatest_price(program)
            self.assertEqual(told, (programs.pair(factor), programs.pair(rest)))
            mixed += told not in prices
        self.assertGreater(mixed, 10)


if __name__ == "__main__":
    unittest.main()
