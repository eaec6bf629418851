"""Runs and told tables (points 18 and 19), against runs played anew for each row of thrown values."""

import random
import unittest
from fractions import Fraction

import programs
from pairedthrows.errors import ThrowError, TooMany
from pairedthrows.reader import read
from pairedthrows.runs import runs_of, told_table
from pairedthrows.tables import is_table
from pairedthrows.throws import thrown

THROWS = ("ladder", "flat", "choose", "first")


class NeedsThrow(Exception):
    """The thrown values that were handed to a run are used up at this throw."""


def play(rows, values, told, script):
    for row in rows:
        if row[0] in THROWS:
            if not script:
                raise NeedsThrow(row)
            values[row[1]] = script.pop(0)
        elif row[0] == "let":
            values[row[1]] = programs.value_of_term(row[2], values)
        elif row[0] == "tell":
            told.append(programs.value_of_term(row[1], values))
        elif row[0] == "when":
            play(row[2] if programs.value_of_term(row[1], values) else row[3], values, told, script)
        else:
            for _ in range(row[1]):
                play(row[2], values, told, script)


def all_played(program, crowd, most):
    """Each row of thrown values that can come, with what it tells and its share; None where there are too many."""
    ended = {}
    begun = [((), Fraction(1))]
    while begun:
        if len(begun) + len(ended) > most:
            return None
        script, share = begun.pop()
        told = []
        try:
            play(program[1], {}, told, list(script))
        except NeedsThrow as stop:
            for value, part in thrown(stop.args[0], crowd):
                begun.append((script + (value,), share * Fraction(*part)))
        else:
            ended[script] = (tuple(told), share)
    return ended


def table_of(ended):
    totals = {}
    for told, share in ended.values():
        totals[told] = totals.get(told, 0) + share
    return tuple((told, (totals[told].numerator, totals[told].denominator)) for told in sorted(totals))


class Runs(unittest.TestCase):
    def played(self, program, crowd, most=400):
        """Looks at both functions, and tells how many runs there are."""
        ended = all_played(program, crowd, most)
        if ended is None:
            self.refused(program, crowd, most)
            return None
        for _ in range(2):
            self.assertEqual(runs_of(program, crowd, most), len(ended), program)
            told = told_table(program, crowd, most)
            self.assertEqual(told, table_of(ended), program)
            self.assertIs(is_table(told), True)
        return len(ended)

    def refused(self, program, crowd, most):
        for asked in (runs_of, told_table):
            with self.assertRaises(ThrowError) as caught:
                asked(program, crowd, most)
            self.assertIs(type(caught.exception), TooMany)
            self.assertEqual(caught.exception.most, most)

    def test_without_a_throw_there_is_one_run(self):
        program = read("kinds a\nlet x 5\nwhen (< x 3)\ntell 1\ntell 2\nelse\ntell x\ntell (- 0 x)\nend")
        for most in (1, 2, 400):
            self.assertEqual(runs_of(program, (3,), most), 1)
            self.assertEqual(told_table(program, (3,), most), (((5, 999995), (1, 1)),))

    def test_a_throw_of_one_value_has_one_run(self):
        program = read("kinds a\nladder x 1/2 4 4 of a\nflat y 0 0 9 of a\ntell (+ x y)")
        self.assertEqual(runs_of(program, (3,), 1), 1)
        self.assertEqual(told_table(program, (3,), 1), (((7,), (1, 1)),))

    def test_by_hand(self):
        program = read("kinds a\nladder x 1/2 0 2 of a\ntell x\ntell (* x x)")
        self.assertEqual(runs_of(program, (0,)), 3)
        self.assertEqual(told_table(program, (0,)), (((0, 0), (2, 3)), ((1, 1), (1, 6)), ((2, 4), (1, 6))))

    def test_a_when_of_which_one_branch_throws_more(self):
        text = "kinds a\nladder x 1/2 0 2 of a\nwhen x\nflat y 1 0 9 of a\nflat z 1 0 9 of a\ntell (+ y z)\nelse\n" \
               "flat y 2 0 9 of a\ntell y\nend\ntell x"
        self.assertEqual(self.played(read(text), (5,)), 2 * 9 + 5)

    def test_a_when_takes_its_rows_where_its_term_is_not_nought(self):
        for number, wanted in ((0, 2), (1, 1), (2, 1), (999, 1)):
            program = read(f"kinds a\nwhen {number}\ntell 1\nelse\ntell 2\nend")
            self.assertEqual(told_table(program, (0,)), (((wanted,), (1, 1)),))

    def test_a_when_without_rows(self):
        program = read("kinds a\nladder x 1/2 0 1 of a\nwhen x\nelse\nladder x 1/3 0 1 of a\nend\ntell x")
        self.assertEqual(self.played(program, (0,)), 3)

    def test_times_of_throws(self):
        for k in (1, 2, 3):
            program = read(f"kinds a\ntimes {k}\nladder x 1/2 0 2 of a\ntell x\nend")
            self.assertEqual(self.played(program, (1,)), 3 ** k)
        program = read("kinds a\nlet s 0\ntimes 2\ntimes 3\nflat x 1 0 9 of a\nlet s (+ s x)\nend\nend\ntell s")
        self.assertEqual(self.played(program, (4,), 729), 729)
        self.assertEqual([answer for answer, _ in told_table(program, (4,), 729)], [(s,) for s in range(18, 31)])

    def test_each_time_throws_anew(self):
        program = read("kinds a\ntimes 2\nladder x 1/2 0 1 of a\ntell x\nend")
        self.assertEqual(told_table(program, (0,)), (((0, 0), (4, 9)), ((0, 1), (2, 9)), ((1, 0), (2, 9)),
                                                     ((1, 1), (1, 9))))

    def test_a_times_goes_on_with_the_values_it_had(self):
        program = read("kinds a\nlet x 1\ntimes 3\ntell x\nlet x (* x 2)\nend\ntell x")
        self.assertEqual(told_table(program, (0,)), (((1, 2, 4, 8), (1, 1)),))

    def test_names_set_again(self):
        program = read("kinds a\nladder x 1/2 0 2 of a\nlet y x\nladder x 1/3 0 2 of a\nlet y (+ (* y 10) x)\n"
                       "let x 9\ntell y\ntell x")
        self.assertEqual(self.played(program, (1,)), 9)

    def test_runs_that_part_keep_their_own_values(self):
        program = read("kinds a\nlet y 0\nladder x 1/2 0 2 of a\nwhen x\nlet y (+ y 1)\ntell y\nelse\ntell y\nend\n"
                       "ladder x 1/2 0 1 of a\nlet y (+ y x)\ntell y")
        self.assertEqual(self.played(program, (1,)), 6)

    def test_throws_that_nothing_needs_count(self):
        program = read("kinds a\nladder x 1/2 0 2 of a\nflat y 1 0 9 of a\ntell x\nladder x 1/2 0 3 of a")
        self.assertEqual(runs_of(program, (5,)), 3 * 3 * 4)
        self.assertEqual(told_table(program, (5,)), (((0,), (1, 6)), ((1,), (1, 6)), ((2,), (2, 3))))
        self.refused(program, (5,), 35)

    def test_answers_alike_are_added(self):
        program = read("kinds a\nladder x 1/2 0 2 of a\nladder y 1/3 0 2 of a\ntell (= x y)")
        self.assertEqual(self.played(program, (1,)), 9)
        self.assertEqual([answer for answer, _ in told_table(program, (1,))], [(0,), (1,)])
        program = read("kinds a\nladder x 1/2 0 9 of a\ntell 3")
        self.assertEqual(told_table(program, (1,)), (((3,), (1, 1)),))

    def test_a_throw_looks_at_the_crowd_alone(self):
        program = read("kinds a\nlet a 5\nladder x 1/2 0 3 of a\ntell (+ x a)")
        self.assertEqual(self.played(program, (1,)), 4)

    def test_crowds_at_both_ends(self):
        text = "kinds a b\nladder x 2/3 0 3 of a b b\nchoose y 1/2 0 5 of a | b b b | -\n" \
               "first z 1 1/2 1/2 0 3 of a | b\ntell (+ x (* 10 (+ y (* 10 z))))"
        program = read(text)
        for crowd in ((0, 0), (10 ** 6, 0), (0, 10 ** 6), (10 ** 6, 10 ** 6), (1, 2)):
            self.assertEqual(self.played(program, crowd), 4 * 3 * 3)
        self.assertEqual(told_table(program, (10 ** 6, 10 ** 6)), told_table(program, (5, 5)))

    def test_as_many_as_most(self):
        program = read("kinds a\nladder x 1/2 0 4 of a\nwhen (< x 2)\nladder y 1/2 0 2 of a\nelse\nend\ntell x")
        self.assertEqual(self.played(program, (1,), 9), 9)
        for most in range(1, 9):
            self.refused(program, (1,), most)
        for most in (9, 10, 400, 2000):
            self.assertEqual(runs_of(program, (1,), most), 9)

    def test_most_is_400_where_it_is_left_out(self):
        just = "kinds a\nladder x 1/2 0 9 of a\nladder y 1/2 0 9 of a\nladder z 1/2 0 3 of a\ntell (+ x y)"
        more = just + "\nwhen (= (+ x (+ y z)) 0)\nladder z 1/2 0 1 of a\nelse\nend"
        self.assertEqual(runs_of(read(just), (2,)), 400)
        self.assertEqual(told_table(read(just), (2,)), told_table(read(just), (2,), 400))
        self.assertEqual(runs_of(read(more), (2,), 401), 401)
        for asked in (runs_of, told_table):
            with self.assertRaises(TooMany) as caught:
                asked(read(more), (2,))
            self.assertEqual(caught.exception.most, 400)

    def test_very_many_runs_are_refused_at_once(self):
        throws = "ladder x 8/9 0 9 of a\n" * 7
        program = read(f"kinds a\ntimes 3\ntimes 3\ntimes 3\n{throws}end\nend\nend\ntell x")
        self.refused(program, (9,), 2000)

    def test_many_runs_of_a_few_values_each(self):
        text = "kinds a\n" + "".join(f"ladder {x} 1/2 0 1 of a\n" for x in "abcdefghij") + "tell (+ a j)"
        self.assertEqual(runs_of(read(text), (1,), 1024), 1024)
        self.assertEqual(told_table(read(text), (1,), 1024), (((0,), (1, 9)), ((1,), (4, 9)), ((2,), (4, 9))))
        self.refused(read(text), (1,), 1023)

    def test_many(self):
        dice = random.Random(19)
        counts = []
        for seed in range(300):
            program = programs.right_program(seed)
            crowd = tuple(dice.choice((0, 1, 2, 3, 10 ** 6)) for _ in program[0])
            counts.append(self.played(program, crowd, 100))
        self.assertIn(None, counts)
        self.assertGreater(sum(count is not None and count > 20 for count in counts), 5)

    def test_rows_within_one_another_beyond_the_bounds(self):
        rows = (("tell", ("num", 2)),)
        for _ in range(500):
            rows = (("when", ("num", 0), (("tell", ("num", 1)),), rows),)
        self.assertEqual(told_table((("a",), rows), (0,)), (((2,), (1, 1)),))
        rows = (("tell", ("num", 7)),)
        for _ in range(500):
            rows = (("times", 1, rows),)
        self.assertEqual(told_table((("a",), rows), (0,)), (((7,), (1, 1)),))


if __name__ == "__main__":
    unittest.main()
