"""A program's rows and throws, and what terms come to (points 6, 7, 10 and 11)."""

import random
import unittest

import programs
from pairedthrows.parts import rows_in, throws_in, value_of
from pairedthrows.reader import read, read_term

THROWS = ("ladder", "flat", "choose", "first")
MANY = [programs.make_program(seed) for seed in range(150)] + [programs.right_program(seed) for seed in range(100)]

TEXT = """kinds a b
ladder x 1/2 0 5 of a
when (< x 3)
flat y 1 0 5 of b
times 2
let z 1
choose z 1/2 0 5 of a | b
end
tell y
else
tell 7
when 0
else
first w 3 1/2 1/3 0 5 of a | b
end
end
times 3
ladder x 1/2 0 5 of b
tell x
end
tell x"""


class RowsIn(unittest.TestCase):
    def test_inner_rows_stand_where_they_are(self):
        sorts = [row[0] for row in rows_in(read(TEXT))]
        self.assertEqual(sorts, ["ladder", "when", "flat", "times", "let", "choose", "tell", "tell", "when", "first",
                                 "times", "ladder", "tell", "tell"])

    def test_rows_are_told_as_they_stand(self):
        program = read(TEXT)
        rows = rows_in(program)
        self.assertEqual(rows[0], program[1][0])
        self.assertEqual(rows[1], program[1][1])
        self.assertEqual(rows[2], ("flat", "y", (0, 1), 1, 0, 5))
        self.assertEqual(rows[10], ("times", 3, (rows[11], rows[12])))
        self.assertEqual(rows[13], program[1][-1])

    def test_a_times_counts_once(self):
        row = ("tell", ("num", 1))
        for k in (1, 2, 3):
            self.assertEqual(rows_in((("a",), (("times", k, (row,)),))), [("times", k, (row,)), row])

    def test_throws_alone(self):
        self.assertEqual([row[:2] for row in throws_in(read(TEXT))],
                         [("ladder", "x"), ("flat", "y"), ("choose", "z"), ("first", "w"), ("ladder", "x")])
        self.assertEqual(throws_in(read("kinds a\nlet x 1\nwhen x\ntell 1\nelse\ntell 2\nend")), [])

    def test_no_rows(self):
        self.assertEqual(rows_in((("a",), ())), [])
        self.assertEqual(throws_in((("a",), ())), [])

    def test_many(self):
        for program in MANY:
            wanted = list(programs.inner_first(program[1]))
            self.assertEqual(rows_in(program), wanted)
            self.assertEqual(throws_in(program), [row for row in wanted if row[0] in THROWS])

    def test_however_deep(self):
        for made in (programs.deep_whens, programs.deep_times, programs.deep_first_rows):
            _, program = made(2000)
            rows = rows_in(program)
            self.assertGreater(len(rows), 2000)
            self.assertTrue(programs.same(rows[0], program[1][0]))
            self.assertEqual(throws_in(program), [])

    def test_a_new_list_each_time(self):
        program = read(TEXT)
        for asked in (rows_in, throws_in):
            told = asked(program)
            self.assertIs(type(told), list)
            kept = list(told)
            self.assertIsNot(asked(program), told)
            told.clear()
            self.assertEqual(asked(program), kept)
        self.assertEqual(program, read(TEXT))


class ValueOf(unittest.TestCase):
    def told(self, text, wanted, **values):
        before = dict(values)
        for _ in range(2):
            answer = value_of(read_term(text), values)
            self.assertEqual(answer, wanted, text)
            self.assertIs(type(answer), int, text)
        self.assertEqual(values, before)

    def test_leaves(self):
        self.told("0", 0)
        self.told("999", 999)
        self.told("x", 0, x=0)
        self.told("x", 999999, x=999999)

    def test_sums(self):
        self.told("(+ 1 2)", 3)
        self.told("(+ x 0)", 999999, x=999999)
        self.told("(+ x 1)", 0, x=999999)
        self.told("(+ x y)", 999998, x=999999, y=999999)

    def test_differences(self):
        self.told("(- 7 2)", 5)
        self.told("(- 2 2)", 0)
        self.told("(- 2 7)", 999995)
        self.told("(- 0 1)", 999999)
        self.told("(- 0 x)", 1, x=999999)
        self.told("(- x 0)", 999999, x=999999)

    def test_products(self):
        self.told("(* 7 6)", 42)
        self.told("(* 0 x)", 0, x=999999)
        self.told("(* 999 999)", 998001)
        self.told("(* x 10)", 0, x=100000)
        self.told("(* x x)", 1, x=999999)
        self.told("(* x y)", 2, x=999999, y=999998)

    def test_less(self):
        self.told("(< 1 2)", 1)
        self.told("(< 2 2)", 0)
        self.told("(< 3 2)", 0)
        self.told("(< 0 (- 0 1))", 1)
        self.told("(< (- 0 1) 0)", 0)

    def test_alike(self):
        self.told("(= 2 2)", 1)
        self.told("(= 2 3)", 0)
        self.told("(= 3 2)", 0)
        self.told("(= (+ x 1) 0)", 1, x=999999)
        self.told("(= (* x x) (- 0 x))", 1, x=999999)

    def test_within_one_another(self):
        self.told("(+ (* 2 3) (- 10 4))", 12)
        self.told("(- (- 9 5) (- 3 1))", 2)
        self.told("(- 9 (- 5 (- 3 (- 2 1))))", 6)
        self.told("(- (- (- (- (- 99 50) 20) 10) 5) 2)", 12)
        self.told("(+ (< x y) (* 10 (= x y)))", 1, x=3, y=4)
        self.told("(+ (< x y) (* 10 (= x y)))", 10, x=4, y=4)

    def test_more_names_than_the_term_has(self):
        self.told("(- x z)", 2, x=5, y=8, z=3, other=0)
        self.told("4", 4, x=5)

    def test_many(self):
        dice = random.Random(7)
        for _ in range(2000):
            term = programs.make_term(dice, 5)
            values = {name: dice.choice((0, 1, 2, 999, 1000, 500000, 999998, 999999)) for name in programs.NAMES}
            self.assertEqual(value_of(term, values), programs.value_of_term(term, values), term)

    def test_however_deep(self):
        left = right = ("num", 1)
        for _ in range(3000):
            left = ("op", "-", left, ("num", 1))
            right = ("op", "-", ("num", 1), right)
        self.assertEqual(value_of(left, {}), 1000000 - 2999)
        self.assertEqual(value_of(right, {}), 1)


if __name__ == "__main__":
    unittest.main()
