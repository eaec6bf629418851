"""Programs and terms written as their texts (points 6 to 9)."""

import unittest

from pairedthrows.reader import read
from pairedthrows.writer import show, show_term
from programs import deep_first_rows, deep_times, deep_whens, make_program
from test_reader import ROWS


class ShowTerm(unittest.TestCase):
    def test_leaves(self):
        for n in (0, 1, 9, 10, 99, 100, 999):
            self.assertEqual(show_term(("num", n)), str(n))
        self.assertEqual(show_term(("name", "abcdefgh")), "abcdefgh")

    def test_brackets(self):
        for sign in "+-*<=":
            self.assertEqual(show_term(("op", sign, ("name", "x"), ("num", 0))), f"({sign} x 0)")
        one = ("op", "-", ("num", 1), ("name", "x"))
        other = ("op", "<", ("name", "y"), ("num", 2))
        self.assertEqual(show_term(("op", "*", one, other)), "(* (- 1 x) (< y 2))")

    def test_deep(self):
        term = ("name", "x")
        for _ in range(400):
            term = ("op", "+", term, ("num", 1))
        self.assertEqual(show_term(term), "(+ " * 400 + "x" + " 1)" * 400)


class Show(unittest.TestCase):
    def test_each_sort_of_row(self):
        for text, row in ROWS:
            self.assertEqual(show((("a", "b"), (row,))), "kinds a b\n" + text)

    def test_within_one_another(self):
        tell = ("tell", ("num", 1))
        rows = (("when", ("num", 0), (("times", 3, (tell, tell)), tell), (("when", ("name", "x"), (), (tell,)),)),
                ("times", 1, ()), tell)
        self.assertEqual(show((("a",), rows)),
                         "kinds a\nwhen 0\ntimes 3\ntell 1\ntell 1\nend\ntell 1\nelse\nwhen x\nelse\ntell 1\nend\nend\n"
                         "times 1\nend\ntell 1")

    def test_kinds_of_any_number(self):
        self.assertEqual(show(((), ())), "kinds")
        self.assertEqual(show(((), (("choose", "x", ((), ()), (1, 2), 0, 5),))), "kinds\nchoose x 1/2 0 5 of - | -")
        self.assertEqual(show((("b", "a", "d", "c"), (("flat", "x", (3, 0, 1, 2), 1, 0, 5),))),
                         "kinds b a d c\nflat x 1 0 5 of b b b d c c")

    def test_deep(self):
        for made in (deep_whens, deep_times, deep_first_rows):
            for depth in (1, 5, 300, 3000):
                text, program = made(depth)
                self.assertEqual(show(program), text)

    def test_made_ones(self):
        texts = {}
        for seed in range(600):
            program = make_program(seed)
            text = show(program)
            self.assertEqual(show(program), text)
            self.assertEqual(read(text), program)
            self.assertEqual(texts.setdefault(text, program), program)


if __name__ == "__main__":
    unittest.main()
