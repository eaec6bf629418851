"""Tops and the crowds up to them (points 31 and 32), by the tests' own trying of one member more and one more."""

import itertools
import unittest

import programs
from pairedthrows.crowds import all_crowds, tops
from pairedthrows.errors import ThrowError, TooMany
from pairedthrows.reader import read
from pairedthrows.runs import told_table

MANY = [programs.right_program(seed) for seed in range(250)]


def with_throws(throws, kinds="a"):
    return read("kinds " + kinds + "\n" + throws + "\ntell 1")


class Tops(unittest.TestCase):
    def told(self, program, wanted):
        self.assertEqual(programs.tried_tops(program), wanted)
        for _ in range(2):
            self.assertEqual(tops(program), wanted)

    def test_by_weights(self):
        for weight, top in ((1, 7), (2, 4), (3, 3)):
            for throw in ("ladder x 1/2 0 7 of", "flat x 1 0 7 of", "choose x 1/2 0 7 of"):
                self.told(with_throws(throw + " a" * weight), (top,))
            self.told(with_throws("first x 2 1/2 1/2 0 8 of" + " a" * weight), (top,))
        self.told(with_throws("ladder x 1/2 0 9 of a a a"), (3,))
        self.told(with_throws("ladder x 1/2 0 7 of -"), (0,))

    def test_of_no_throw(self):
        self.told(with_throws("let x 1"), (0,))
        self.told(with_throws("let x 1", "a b c"), (0, 0, 0))

    def test_a_kind_that_nothing_asks_for(self):
        self.told(with_throws("ladder x 1/2 0 5 of a\nflat y 1 0 3 of c", "a b c"), (5, 0, 3))

    def test_low_above_nought(self):
        # Below low nothing moves, but from there on it does, up to high.
        self.told(with_throws("ladder x 1/2 4 6 of a"), (6,))
        self.told(with_throws("ladder x 1/2 4 6 of a a a"), (2,))
        self.told(with_throws("ladder x 1/2 8 9 of a"), (9,))

    def test_low_and_high_are_one(self):
        for rung in (0, 1, 9):
            self.told(with_throws(f"ladder x 1/2 {rung} {rung} of a"), (0,))
            self.told(with_throws(f"choose x 1/2 {rung} {rung} of a | -"), (0,))
        self.told(with_throws("flat x 3 0 0 of a a a"), (0,))

    def test_a_first_s_sums_end_one_below_high(self):
        self.told(with_throws("first x 2 1/2 1/2 0 5 of a"), (4,))
        self.told(with_throws("first x 2 1/2 1/2 2 3 of a"), (0,))
        self.told(with_throws("first x 0 1/2 1/2 0 1 of a a a"), (0,))
        self.told(with_throws("first x 0 1/2 1/2 0 2 of a a a"), (1,))

    def test_the_greatest_of_sums_and_of_throws(self):
        self.told(with_throws("choose x 1/2 0 9 of a a a | a | a a"), (9,))
        self.told(with_throws("choose x 1/2 0 9 of a a a | b | a a", "a b"), (5, 9))
        self.told(with_throws("ladder x 1/2 0 2 of a\nladder y 1/2 0 6 of a a\nladder z 1/2 0 9 of b", "a b"), (3, 9))

    def test_idle_and_inner_throws_count(self):
        program = read("kinds a b\nladder x 1/2 0 3 of a\nwhen 0\nladder y 1/2 0 7 of a\ntimes 2\nflat z 1 0 4 of b\n"
                       "end\nelse\nend\ntell x")
        self.told(program, (7, 4))

    def test_other_counts_that_hide_a_move_or_do_not(self):
        # With b's members there the sum is at high sooner, without them it isn't.
        self.told(with_throws("ladder x 1/2 0 5 of a b b b", "a b"), (5, 2))
        # Only with b's members there does a's first one move it, but the last move counts.
        self.told(with_throws("ladder x 1/2 5 6 of a b b b", "a b"), (6, 2))

    def test_many(self):
        seen = set()
        for program in MANY:
            told = programs.tried_tops(program, 9)
            for _ in range(2):
                self.assertEqual(tops(program), told, program)
            seen.update(told)
        self.assertEqual(seen, set(range(10)))

    def test_beyond_the_tops_nothing_changes(self):
        moved = 0
        for seed in range(60):
            program = programs.right_program(seed, programs.low_throw)
            limits = tops(program)
            for crowd in itertools.islice(itertools.product((0, 1, 3, 10, 10 ** 6), repeat=len(limits)), 30):
                cut = tuple(map(min, crowd, limits))
                try:
                    told = told_table(program, crowd)
                except TooMany:
                    break
                self.assertEqual(told, told_table(program, cut))
                moved += cut != crowd
        self.assertGreater(moved, 300)


class AllCrowds(unittest.TestCase):
    def refused(self, program, *most):
        with self.assertRaises(ThrowError) as caught:
            all_crowds(program, *most)
        self.assertIs(type(caught.exception), TooMany)
        self.assertEqual(caught.exception.most, most[0] if most else 400)

    def test_by_hand(self):
        program = with_throws("ladder x 1/2 0 2 of a\nflat y 1 0 1 of b", "a b")
        for most in ((), (6,), (7,), (2000,)):
            self.assertEqual(all_crowds(program, *most), [(0, 0), (0, 1), (1, 0), (1, 1), (2, 0), (2, 1)])
        for most in range(1, 6):
            self.refused(program, most)

    def test_of_no_throw(self):
        self.assertEqual(all_crowds(with_throws("let x 1", "a b c"), 1), [(0, 0, 0)])
        self.assertEqual(all_crowds(with_throws("ladder x 1/2 3 3 of a"), 1), [(0,)])

    def test_400_where_it_is_left_out(self):
        just = with_throws("ladder x 1/2 0 9 of a\nladder y 1/2 0 9 of b\nladder z 1/2 0 3 of c", "a b c")
        self.assertEqual(len(all_crowds(just)), 400)
        more = with_throws("ladder x 1/2 0 9 of a\nladder y 1/2 0 9 of b\nladder z 1/2 0 4 of c", "a b c")
        self.refused(more)
        self.assertEqual(len(all_crowds(more, 500)), 500)
        self.refused(more, 499)

    def test_whatever_their_runs(self):
        throws = "ladder x 8/9 0 9 of a\n" * 7
        program = read(f"kinds a\ntimes 3\ntimes 3\ntimes 3\n{throws}end\nend\nend\ntell x")
        self.assertEqual(all_crowds(program, 10), [(count,) for count in range(10)])

    def test_a_list_that_was_told_is_the_asker_s_own(self):
        program = with_throws("ladder x 1/2 0 2 of a")
        told = all_crowds(program)
        told.clear()
        told.append("changed")
        self.assertEqual(all_crowds(program), [(0,), (1,), (2,)])
        self.assertIsNot(all_crowds(program), all_crowds(program))

    def test_many(self):
        refused = 0
        for program in MANY:
            wanted = sorted(itertools.product(*(range(top + 1) for top in programs.tried_tops(program, 9))))
            if len(wanted) > 400:
                self.refused(program)
                refused += 1
            told = all_crowds(program, len(wanted))
            self.assertIs(type(told), list)
            self.assertEqual(told, wanted)
            self.assertEqual(all_crowds(program, 2000), wanted)
            if len(wanted) > 1:
                self.refused(program, len(wanted) - 1)
        self.assertGreater(refused, 3)


if __name__ == "__main__":
    unittest.main()
