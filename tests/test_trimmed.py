"""Programs trimmed of their idle rows (points 26, 27 and 34)."""

import random
import unittest

import programs
from pairedthrows.errors import TooMany
from pairedthrows.looker import look
from pairedthrows.needed import idle, needed
from pairedthrows.prices import price
from pairedthrows.reader import read
from pairedthrows.runs import runs_of, told_table
from pairedthrows.trimmed import trimmed
from pairedthrows.writer import show

MANY = [programs.right_program(seed) for seed in range(250)] \
    + [programs.right_program(seed, programs.low_throw) for seed in range(250)]


def without(rows, names):
    told = []
    for row in rows:
        if row[0] in ("when", "times"):
            row = row[:2] + tuple(without(inner, names) for inner in row[2:])
        if not programs.is_idle(row, names):
            told.append(row)
    return tuple(told)


class Trimmed(unittest.TestCase):
    def told(self, text, wanted):
        program = read("kinds a\n" + text)
        for _ in range(2):
            self.assertEqual(trimmed(program), read("kinds a\n" + wanted))
        self.assertEqual(program, read("kinds a\n" + text))

    def test_each_sort_of_row(self):
        for row in ("ladder y 1/2 0 5 of a", "flat y 1 0 5 of a", "choose y 1/2 0 5 of a", "first y 1 1/2 1/2 0 5 of a",
                    "let y 3"):
            self.told(f"{row}\ntell 1", "tell 1")
            self.told(f"tell 1\n{row}", "tell 1")
            self.told(f"{row}\ntell y", f"{row}\ntell y")
            self.told(f"ladder x 1/2 0 1 of a\n{row}\ntell x\n{row}", "ladder x 1/2 0 1 of a\ntell x")

    def test_by_way_of_lets(self):
        self.told("ladder x 1/2 0 5 of a\nlet y x\nlet z (+ y y)\ntell 1", "tell 1")
        self.told("ladder x 1/2 0 5 of a\nlet y x\nlet z (+ y y)\ntell y", "ladder x 1/2 0 5 of a\nlet y x\ntell y")
        self.told("let x 1\nlet x (+ x x)\nlet y 2\nlet z y\nlet y z\ntell 1", "tell 1")

    def test_inner_rows(self):
        self.told("flat x 1 0 5 of a\nwhen x\nlet y 1\ntell 1\ntimes 2\nlet y 2\nlet x y\nend\nelse\n"
                  "flat z 1 0 5 of a\ntell 2\nend\ntell 3",
                  "flat x 1 0 5 of a\nwhen x\nlet y 1\ntell 1\ntimes 2\nlet y 2\nlet x y\nend\nelse\n"
                  "tell 2\nend\ntell 3")

    def test_whens_and_times_stay_without_rows(self):
        self.told("when 1\nlet y 1\nelse\nlet z 1\nend\ntimes 3\nladder u 1/2 0 5 of a\nend\ntell 1",
                  "when 1\nelse\nend\ntimes 3\nend\ntell 1")
        self.told("when 1\ntimes 2\nlet y 1\nend\nelse\nend\ntell 1", "when 1\ntimes 2\nend\nelse\nend\ntell 1")

    def test_nothing_is_idle(self):
        text = "ladder x 1/2 0 5 of a\nwhen x\nelse\nend\ntimes 2\ntell x\nend"
        self.told(text, text)

    def test_a_kind_that_is_asked_for_no_more_stays(self):
        program = read("kinds a b\nladder x 1/2 0 5 of b\nladder y 1/2 0 5 of a\ntell y")
        self.assertEqual(trimmed(program), read("kinds a b\nladder y 1/2 0 5 of a\ntell y"))

    def test_fewer_runs(self):
        program = read("kinds a\nladder x 1/2 0 9 of a\nladder y 1/2 0 9 of a\nladder z 1/2 0 9 of a\ntell x")
        with self.assertRaises(TooMany):
            told_table(program, (3,))
        self.assertEqual(runs_of(trimmed(program), (3,)), 10)
        self.assertEqual(told_table(program, (3,), 1000), told_table(trimmed(program), (3,)))

    def test_many(self):
        dice = random.Random(34)
        shorter = compared = 0
        for program in MANY:
            told = trimmed(program)
            self.assertEqual(trimmed(program), told)
            self.assertEqual(told, (program[0], without(program[1], programs.needed_names(program))))
            self.assertIs(look(told), True)
            self.assertEqual(idle(told), ())
            self.assertEqual(needed(told), needed(program))
            self.assertEqual(trimmed(told), told)
            self.assertEqual(read(show(told)), told)
            shorter += told != program
            for kind in range(len(program[0])):
                self.assertEqual(price(told, kind), price(program, kind))
            crowd = tuple(dice.choice((0, 1, 2, 3, 10 ** 6)) for _ in program[0])
            try:
                wanted = told_table(program, crowd)
            except TooMany:
                continue
            self.assertEqual(told_table(told, crowd), wanted)
            compared += told != program
        self.assertGreater(shorter, 200)
        self.assertGreater(compared, 100)


if __name__ == "__main__":
    unittest.main()
