"""The least rest and the least factor of a program (points 20, 21 and 32), by going over all neighbours."""

import itertools
import unittest
from fractions import Fraction

import programs
from pairedthrows.errors import ThrowError, TooMany
from pairedthrows.least import least_factor_of, least_rest_of
from pairedthrows.looker import look
from pairedthrows.prices import price
from pairedthrows.reader import read
from pairedthrows.runs import runs_of, told_table

FACTORS = ((1, 1), (11, 10), (2, 1), (9, 1), (10 ** 59 + 1, 10 ** 59))
MANY = [programs.right_program(seed, programs.low_throw) for seed in range(110)] \
    + [programs.right_program(seed, programs.flat_throw) for seed in range(110)]


def tables_of(program, most=400):
    """The told table of each crowd up to the tops, or None where there are too many crowds or runs."""
    crowds = list(itertools.product(*(range(top + 1) for top in programs.tried_tops(program, 4))))
    if len(crowds) > most:
        return None
    try:
        return {crowd: told_table(program, crowd, most) for crowd in crowds}
    except TooMany:
        return None


def neighbours(tables, kind):
    for crowd in tables:
        more = programs.one_more(crowd, kind)
        if more in tables:
            yield crowd, more
            yield more, crowd


def quotients(one, other):
    """Of each answer of the one its share over the other's, None where that lacks it."""
    shares = {answer: Fraction(*share) for answer, share in other}
    return {answer: Fraction(*share) / shares[answer] if answer in shares else None for answer, share in one}


class Least(unittest.TestCase):
    def rest(self, program, kind, factor, tables):
        told = least_rest_of(program, kind, factor)
        self.assertEqual(least_rest_of(program, kind, factor), told)
        self.assertIs(type(told), tuple)
        pairs = list(neighbours(tables, kind))
        if not pairs:
            nobody = (0,) * len(program[0])
            self.assertEqual(told, ((0, 1), nobody, nobody, ()))
            return told
        rest, one, other, answers = told
        rests = {apart: programs.rest_between(tables[apart[0]], tables[apart[1]], factor) for apart in pairs}
        self.assertEqual(rest, programs.pair(max(rests.values())))
        self.assertIn((one, other), rests)
        self.assertEqual(rest, programs.pair(rests[one, other]))
        self.assertEqual(answers, tuple(sorted(programs.gaps(tables[one], tables[other], factor))))
        return told

    def factor(self, program, kind, tables):
        told = least_factor_of(program, kind)
        self.assertEqual(least_factor_of(program, kind), told)
        self.assertIs(type(told), tuple)
        pairs = list(neighbours(tables, kind))
        if not pairs:
            nobody = (0,) * len(program[0])
            self.assertEqual(told, ((1, 1), nobody, nobody, ()))
            return told
        factor, one, other, answers = told
        self.assertIn((one, other), pairs)
        self.assertIs(type(answers), tuple)
        every = [quotients(tables[x], tables[y]) for x, y in pairs]
        mine = quotients(tables[one], tables[other])
        if any(None in each.values() for each in every):
            self.assertIsNone(factor)
            self.assertEqual(len(answers), 1)
            self.assertIn(answers[0], mine)
            self.assertIsNone(mine[answers[0]])
        else:
            greatest = max(max(each.values()) for each in every)
            self.assertEqual(factor, programs.pair(greatest))
            self.assertEqual(answers, (min(answer for answer in mine if mine[answer] == greatest),))
        return told

    def refused(self, program, kind, most):
        for asked in ((least_rest_of, program, kind, (1, 1)), (least_factor_of, program, kind)):
            with self.assertRaises(ThrowError) as caught:
                asked[0](*asked[1:], *most)
            self.assertIs(type(caught.exception), TooMany)
            self.assertEqual(caught.exception.most, most[0] if most else 400)

    def test_a_ladder_by_hand(self):
        program = read("kinds a\nladder x 1/2 0 1 of a\ntell x")
        self.assertIn(least_factor_of(program, 0), [((2, 1), (0,), (1,), ((0,),)), ((2, 1), (1,), (0,), ((1,),))])
        self.assertIn(least_rest_of(program, 0, (1, 1)),
                      [((1, 3), (0,), (1,), ((0,),)), ((1, 3), (1,), (0,), ((1,),))])
        self.assertIn(least_rest_of(program, 0, (3, 2)),
                      [((1, 6), (0,), (1,), ((0,),)), ((1, 6), (1,), (0,), ((1,),))])
        for factor in ((2, 1), (3, 1), (10 ** 59, 1)):
            rest, one, other, answers = least_rest_of(program, 0, factor)
            self.assertEqual((rest, answers), ((0, 1), ()))
            self.assertIn((one, other), (((0,), (1,)), ((1,), (0,))))

    def test_either_one_may_be_the_one(self):
        throw, still = "ladder y 1/2 0 1 of -", "let y 0"
        # The answer 1 is lacking where there is no throw: for nobody, or for one member.
        for one, other, rows, others in (((1,), (0,), throw, still), ((0,), (1,), still, throw)):
            program = read(f"kinds a\nflat x 0 0 1 of a\nwhen x\n{rows}\nelse\n{others}\nend\ntell y")
            self.assertEqual(least_factor_of(program, 0), (None, one, other, ((1,),)))
            self.assertEqual(least_rest_of(program, 0, (3, 1)), ((1, 3), one, other, ((1,),)))

    def test_none_where_an_answer_is_lacking(self):
        program = read("kinds a\nflat x 0 0 3 of a\ntell x")
        factor, one, other, answers = least_factor_of(program, 0)
        self.assertIsNone(factor)
        self.assertEqual(abs(one[0] - other[0]), 1)
        self.assertEqual(answers, (one,))
        rest, one, other, answers = least_rest_of(program, 0, (10 ** 59, 1))
        self.assertEqual((rest, answers), ((1, 1), (one,)))

    def test_the_first_answer_with_the_quotient(self):
        program = read("kinds a\nladder x 1/2 0 2 of a\ntell x\ntell 7")
        factor, one, other, answers = least_factor_of(program, 0)
        self.assertEqual(factor, (2, 1))
        self.assertEqual(answers, (((0, 7),) if one < other else ((one[0], 7),)))
        self.factor(program, 0, tables_of(program))

    def test_a_kind_whose_top_is_nought(self):
        for text in ("kinds a b\nladder x 1/2 0 3 of a\ntell x",
                     "kinds a b\nladder x 1/2 4 4 of b\nflat y 0 0 1 of a\ntell x"):
            program = read(text)
            self.assertEqual(least_factor_of(program, 1), ((1, 1), (0, 0), (0, 0), ()))
            for factor in FACTORS:
                self.assertEqual(least_rest_of(program, 1, factor), ((0, 1), (0, 0), (0, 0), ()))
        self.assertEqual(least_factor_of(read("kinds a\ntell 1"), 0, 1), ((1, 1), (0,), (0,), ()))

    def test_a_kind_that_moves_but_is_not_seen(self):
        program = read("kinds a\nladder x 1/2 0 3 of a\ntell 4")
        factor, one, other, answers = least_factor_of(program, 0)
        self.assertEqual((factor, answers), ((1, 1), ((4,),)))
        self.assertEqual(abs(one[0] - other[0]), 1)
        rest, one, other, answers = least_rest_of(program, 0, (1, 1))
        self.assertEqual((rest, answers), ((0, 1), ()))
        self.assertEqual(abs(one[0] - other[0]), 1)

    def test_many(self):
        seen = {"none": 0, "refused": 0, "still": 0, "other": 0}
        for program in MANY:
            tables = tables_of(program)
            for kind in range(len(program[0])):
                if tables is None:
                    self.refused(program, kind, ())
                    seen["refused"] += 1
                    continue
                told = self.factor(program, kind, tables)
                seen["none" if told[0] is None else "still" if told[3] == () else "other"] += 1
                factors = FACTORS + (price(program, kind)[0],) + (() if told[0] is None else (told[0],))
                for factor in factors:
                    self.rest(program, kind, factor, tables)
                if told[0] is not None:
                    self.assertEqual(least_rest_of(program, kind, told[0])[0], (0, 1))
        self.assertGreater(min(seen.values()), 15, seen)

    def test_no_crowd_however_great_has_more(self):
        tried = 0
        for program in MANY[::5]:
            if tables_of(program) is None:
                continue
            crowds = list(itertools.product((0, 1, 2, 3, 5, 10 ** 6 - 1), repeat=len(program[0])))[::7]
            for kind in range(len(program[0])):
                factor = least_factor_of(program, kind)[0]
                rest = Fraction(*least_rest_of(program, kind, (11, 10))[0])
                for crowd in crowds:
                    one, other = (told_table(program, each, 2000) for each in (crowd, programs.one_more(crowd, kind)))
                    for x, y in ((one, other), (other, one)):
                        self.assertLessEqual(programs.rest_between(x, y, (11, 10)), rest)
                        if factor is not None:
                            self.assertEqual(programs.rest_between(x, y, factor), 0)
                        tried += 1
        self.assertGreater(tried, 500)


class TooManyOfThem(unittest.TestCase):
    refused = Least.refused

    def test_crowds(self):
        program = read("kinds a b\nladder x 1/2 0 3 of a\nflat y 1 0 1 of b\ntell 1")
        # Eight crowds, and at most eight runs.
        self.assertEqual(max(runs_of(program, crowd) for crowd in itertools.product(range(4), range(2))), 8)
        for kind in (0, 1):
            for most in range(1, 8):
                self.refused(program, kind, (most,))
            for most in (8, 9, 400):
                self.assertEqual(least_factor_of(program, kind, most), least_factor_of(program, kind))
                self.assertEqual(least_rest_of(program, kind, (1, 1), most), least_rest_of(program, kind, (1, 1)))

    def test_runs_of_any_one_crowd(self):
        program = read("kinds a\n" + "".join(f"flat {x} 1 0 9 of a\n" for x in "xyz") + "tell (+ x (+ y z))")
        self.assertEqual([runs_of(program, (count,)) for count in range(10)], [8] + [27] * 8 + [8])
        for most in (1, 9, 10, 26):
            self.refused(program, 0, (most,))
        for most in (27, 28, 400):
            self.assertEqual(least_factor_of(program, 0, most), least_factor_of(program, 0))

    def test_runs_of_the_last_crowd_alone(self):
        # One run for no member, five for the top.
        program = read("kinds a\nflat x 0 0 1 of a\nwhen x\nladder y 1/2 0 4 of a\nelse\nlet y 1\nend\ntell y")
        self.assertEqual([runs_of(program, (count,)) for count in (0, 1)], [1, 5])
        for most in (1, 2, 4):
            self.refused(program, 0, (most,))
        self.assertEqual(least_factor_of(program, 0, 5)[0], None)

    def test_where_the_kind_s_top_is_nought(self):
        program = read("kinds a b\nladder x 1/2 0 7 of a\nladder y 1/2 0 1 of a\ntell x")
        for most in (1, 7, 8, 15):
            self.refused(program, 1, (most,))
        self.assertEqual(least_factor_of(program, 1, 16), ((1, 1), (0, 0), (0, 0), ()))
        program = read("kinds a b\nladder x 1/2 0 7 of -\ntell x")
        self.refused(program, 1, (7,))
        self.assertEqual(least_rest_of(program, 1, (1, 1), 8), ((0, 1), (0, 0), (0, 0), ()))

    def test_400_where_it_is_left_out(self):
        text = "kinds a\nladder x 1/2 0 9 of a\nladder y 1/2 0 9 of a\nladder z 1/2 0 3 of a\ntell x"
        self.assertEqual(least_factor_of(read(text), 0)[0], (2, 1))
        self.refused(read(text), 0, (399,))
        self.refused(read(text.replace("0 3", "0 4")), 0, ())
        kinds = "kinds a b c\nladder x 1/2 0 9 of a\nladder x 1/2 0 9 of b\nladder x 1/2 0 4 of c\ntell 1"
        self.refused(read(kinds), 2, ())

    def test_the_programs_are_let_by(self):
        self.assertTrue(all(look(program) for program in MANY))


if __name__ == "__main__":
    unittest.main()
