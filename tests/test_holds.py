"""Whether a factor and a rest hold (points 32 and 36)."""

import unittest
from fractions import Fraction

import programs
from pairedthrows.errors import ThrowError, TooMany
from pairedthrows.holds import holds
from pairedthrows.least import least_factor_of, least_rest_of
from pairedthrows.papers import paper_of, paper_shows
from pairedthrows.prices import price
from pairedthrows.reader import read
from pairedthrows.runs import told_table

LITTLE = Fraction(1, 10 ** 30)
MANY = [programs.right_program(seed, programs.low_throw) for seed in range(90)] \
    + [programs.right_program(seed, programs.flat_throw) for seed in range(50)]


def near(fraction, least=0):
    """The fraction, a little more, and a little less where that is no less than the least."""
    told = [fraction, fraction + LITTLE, fraction - LITTLE]
    return [programs.pair(one) for one in told if one >= least]


class Holds(unittest.TestCase):
    def told(self, program, kind, factor, rest, most=400):
        """Looks at what is told, and tells its word."""
        told = holds(program, kind, factor, rest, most)
        self.assertEqual(holds(program, kind, factor, rest, most), told)
        self.assertIs(type(told), tuple)
        f, r = price(program, kind)
        enough = Fraction(*factor) >= Fraction(*f) and Fraction(*rest) >= Fraction(*r)
        self.assertEqual(told[0] == "paper", enough)
        if told[0] == "paper":
            self.assertEqual(told, ("paper", paper_of(program, kind)))
            self.assertEqual(paper_shows(program, kind, told[1]), (f, r))
            return "paper"
        least = least_rest_of(program, kind, factor, most)[0]
        self.assertEqual(told[0], "breaks" if Fraction(*rest) < Fraction(*least) else "open")
        if told[0] == "breaks":
            self.breaks(program, kind, factor, rest, told)
        else:
            self.assertEqual(told, ("open", f, r))
        return told[0]

    def breaks(self, program, kind, factor, rest, told):
        word, one, other, answers = told
        self.assertIn(programs.one_more(min(one, other), kind), (one, other))
        self.assertNotEqual(one, other)
        self.assertIs(type(answers), tuple)
        self.assertEqual(list(answers), sorted(set(answers)))
        shares, others = (dict(told_table(program, crowd)) for crowd in (one, other))
        share = sum(Fraction(*shares[answer]) for answer in answers)
        against = sum((Fraction(*others.get(answer, (0, 1))) for answer in answers), Fraction(0))
        self.assertGreater(share, Fraction(*factor) * against + Fraction(*rest))

    def test_a_ladder_by_hand(self):
        program = read("kinds a\nladder x 1/2 0 3 of a\ntell x")
        paper = ("paper", (((0,), "throw", (2, 1), (0, 1)), ((1,), "plain", (1, 1), (0, 1)),
                           ((), "rows", (2, 1), (0, 1))))
        for factor, rest in (((2, 1), (0, 1)), ((3, 1), (0, 1)), ((2, 1), (1, 9)), ((10 ** 59, 1), (10 ** 59, 1))):
            self.assertEqual(holds(program, 0, factor, rest), paper)
        self.assertEqual(holds(program, 0, (1, 1), (1, 3)), ("open", (2, 1), (0, 1)))
        self.assertEqual(holds(program, 0, (1, 1), (1, 2)), ("open", (2, 1), (0, 1)))
        self.assertEqual(self.told(program, 0, (1, 1), (33, 100)), "breaks")
        self.assertEqual(self.told(program, 0, (19, 10), (0, 1)), "breaks")

    def test_a_rest_too_small_or_a_factor_too_small(self):
        program = read("kinds a\nladder x 1/2 0 3 of a\nflat y 1 0 4 of a\ntell x\ntell y")
        self.assertEqual(price(program, 0), ((2, 1), (1, 3)))
        self.assertEqual(self.told(program, 0, (2, 1), (1, 3)), "paper")
        for factor, rest in (((2, 1), (1, 4)), ((3, 2), (1, 3)), ((1, 1), (0, 1))):
            self.assertIn(self.told(program, 0, factor, rest), ("breaks", "open"))
        self.assertEqual(self.told(program, 0, (10, 1), (1, 4)), "breaks")
        self.assertEqual(self.told(program, 0, (3, 2), (99, 100)), "open")

    def test_a_rest_above_1(self):
        program = read("kinds a\ntimes 2\nflat x 0 0 3 of a\ntell x\nend")
        self.assertEqual(price(program, 0), ((1, 1), (2, 1)))
        self.assertEqual(self.told(program, 0, (1, 1), (2, 1)), "paper")
        self.assertEqual(self.told(program, 0, (1, 1), (3, 2)), "open")
        self.assertEqual(self.told(program, 0, (1, 1), (1, 1)), "open")
        self.assertEqual(self.told(program, 0, (1, 1), (99, 100)), "breaks")

    def test_a_kind_whose_top_is_nought(self):
        program = read("kinds a b\nladder x 1/2 4 4 of a\nladder y 1/2 0 1 of b\ntell (+ x y)")
        self.assertEqual(self.told(program, 0, (2, 1), (0, 1)), "paper")
        self.assertEqual(self.told(program, 0, (1, 1), (0, 1)), "open")

    def test_near_the_price_and_the_least(self):
        seen = {"paper": 0, "breaks": 0, "open": 0}
        for program in MANY:
            for kind in range(len(program[0])):
                f, r = (Fraction(*part) for part in price(program, kind))
                try:
                    least = least_factor_of(program, kind)[0]
                    rest = Fraction(*least_rest_of(program, kind, (11, 10))[0])
                except TooMany:
                    continue
                asked = [(factor, rest) for factor in near(f, 1) for rest in near(r)]
                asked += [((11, 10), one) for one in near(rest)]
                if least is not None:
                    asked += [(factor, (0, 1)) for factor in near(Fraction(*least), 1)]
                for factor, other in asked:
                    seen[self.told(program, kind, factor, other)] += 1
        self.assertGreater(min(seen.values()), 100, seen)


class TooManyOfThem(unittest.TestCase):
    def refused(self, *arguments):
        with self.assertRaises(ThrowError) as caught:
            holds(*arguments)
        self.assertIs(type(caught.exception), TooMany)
        self.assertEqual(caught.exception.most, arguments[4] if len(arguments) > 4 else 400)

    def test_crowds(self):
        program = read("kinds a b\nladder x 1/2 0 3 of a\nladder y 1/2 0 1 of b\ntell 1\ntell (+ x x)")
        for most in range(1, 8):
            self.refused(program, 0, (1, 1), (0, 1), most)
            self.refused(program, 0, (1, 1), (1, 1), most)
            self.assertEqual(holds(program, 0, (2, 1), (0, 1), most)[0], "paper")
            self.assertEqual(holds(program, 1, (1, 1), (0, 1), most)[0], "paper")
        self.assertEqual(holds(program, 0, (1, 1), (0, 1), 8)[0], "breaks")
        self.assertEqual(holds(program, 0, (1, 1), (1, 1), 8)[0], "open")

    def test_runs(self):
        program = read("kinds a\nflat x 1 0 9 of a\nflat y 1 0 9 of a\nflat z 1 0 9 of a\ntell (+ x (+ y z))")
        for most in (1, 10, 26):
            self.refused(program, 0, (1, 1), (0, 1), most)
            self.refused(program, 0, (9, 1), (99, 100), most)
            self.assertEqual(holds(program, 0, (1, 1), (1, 1), most)[0], "paper")
        self.assertEqual(holds(program, 0, (1, 1), (0, 1), 27)[0], "breaks")

    def test_400_where_it_is_left_out(self):
        just = "kinds a\nladder x 1/2 0 9 of a\nladder y 1/2 0 9 of a\nladder z 1/2 0 3 of a\ntell x"
        more = just.replace("0 3", "0 4")
        self.assertEqual(holds(read(just), 0, (1, 1), (0, 1))[0], "breaks")
        self.refused(read(more), 0, (1, 1), (0, 1))
        self.refused(read(just), 0, (1, 1), (0, 1), 399)
        self.assertEqual(holds(read(more), 0, (2, 1), (0, 1))[0], "paper")


if __name__ == "__main__":
    unittest.main()
