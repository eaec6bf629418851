"""Needed names and idle rows (points 10, 11, 26 and 27)."""

import unittest

import programs
from pairedthrows.needed import idle, needed
from pairedthrows.reader import read

MANY = [programs.right_program(seed) for seed in range(400)] + [programs.make_program(seed) for seed in range(200)]


class Needed(unittest.TestCase):
    def told(self, text, names, numbers):
        program = read("kinds a\n" + text)
        for _ in range(2):
            self.assertEqual(needed(program), names)
            self.assertEqual(idle(program), numbers)
        self.assertEqual(program, read("kinds a\n" + text))

    def test_a_tell_s_names(self):
        self.told("ladder x 1/2 0 5 of a\ntell x", ("x",), ())
        self.told("ladder x 1/2 0 5 of a\ntell (+ 1 (* x x))", ("x",), ())
        self.told("ladder x 1/2 0 5 of a\ntell 1", (), (0,))
        self.told("tell 1", (), ())

    def test_a_when_s_names(self):
        self.told("flat x 1 0 5 of a\nwhen (< x 3)\ntell 1\nelse\ntell 2\nend", ("x",), ())
        self.told("flat x 1 0 5 of a\nwhen x\nelse\nend\ntell 1", ("x",), ())

    def test_names_rise(self):
        self.told("let b 1\nlet c 2\nlet a 3\nlet ab 4\ntell (+ c (+ b (+ ab a)))", ("a", "ab", "b", "c"), ())

    def test_each_sort_of_throw(self):
        for throw in ("ladder x 1/2 0 5 of a", "flat x 1 0 5 of a", "choose x 1/2 0 5 of a | -",
                      "first x 1 1/2 1/2 0 5 of a"):
            self.told(throw + "\ntell 1", (), (0,))
            self.told(throw + "\ntell x", ("x",), ())

    def test_through_lets(self):
        self.told("ladder x 1/2 0 5 of a\nlet y x\nlet z (+ y 1)\ntell z", ("x", "y", "z"), ())
        self.told("ladder x 1/2 0 5 of a\nlet y x\nlet z (+ y 1)\ntell y", ("x", "y"), (2,))
        self.told("ladder x 1/2 0 5 of a\nlet y x\nlet z (+ y 1)\ntell 1", (), (0, 1, 2))

    def test_a_let_that_stands_behind(self):
        self.told("let x 1\nladder y 1/2 0 5 of a\ntell x\nlet x y", ("x", "y"), ())
        self.told("let x 1\nlet z 1\ntell x\nlet y z\nlet x y", ("x", "y", "z"), ())
        self.told("let x 0\nlet y 0\ntimes 2\ntell x\nlet x y\nladder y 1/2 0 5 of a\nend", ("x", "y"), ())

    def test_names_set_again(self):
        self.told("ladder x 1/2 0 5 of a\nlet x 3\ntell x", ("x",), ())
        self.told("ladder x 1/2 0 5 of a\ntell 1\nladder x 1/2 0 5 of a", (), (0, 2))
        self.told("ladder y 1/2 0 5 of a\nlet x y\nlet x 3\ntell x", ("x", "y"), ())

    def test_a_let_of_itself(self):
        self.told("let x 1\nlet x (+ x 1)\ntell 1", (), (0, 1))
        self.told("let x 1\nlet x (+ x 1)\ntell x", ("x",), ())
        self.told("let x 1\nlet y x\nlet x y\ntell y", ("x", "y"), ())

    def test_inner_rows_are_numbered_where_they_stand(self):
        self.told("ladder x 1/2 0 5 of a\nwhen x\nlet y 1\ntimes 2\nflat z 1 0 5 of a\ntell 1\nend\nelse\n"
                  "let y 2\ntell 1\nladder w 1/2 0 5 of a\ntell 2\nend\nlet v x\ntell 3", ("x",), (2, 4, 6, 8, 10))

    def test_a_name_needed_in_one_branch_alone(self):
        self.told("ladder x 1/2 0 5 of a\nladder y 1/2 0 5 of a\nwhen 1\ntell x\nelse\ntell 2\nend", ("x",), (1,))
        self.told("when 0\nlet x 1\ntell x\nelse\nlet x 2\ntell 1\nend", ("x",), ())

    def test_whens_tells_and_times_are_never_idle(self):
        self.told("when 0\nelse\nend\ntimes 3\nend\ntell 1", (), ())

    def test_kinds_of_the_same_name_need_nothing(self):
        self.told("ladder x 1/2 0 5 of a\nlet a 2\ntell x", ("x",), (1,))

    def test_many(self):
        counts = [0, 0]
        for program in MANY:
            names = programs.needed_names(program)
            wanted = tuple(number for number, row in enumerate(programs.inner_first(program[1]))
                           if programs.is_idle(row, names))
            for _ in range(2):
                self.assertEqual(needed(program), tuple(sorted(names)))
                self.assertEqual(idle(program), wanted)
            counts[bool(wanted)] += 1
        self.assertGreater(min(counts), 50)


if __name__ == "__main__":
    unittest.main()
