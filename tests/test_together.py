"""Programs put together and ladders exchanged (points 33 and 35)."""

import itertools
import random
import unittest
from fractions import Fraction

import programs
from pairedthrows.errors import NoFit, ThrowError, TooMany
from pairedthrows.least import least_factor_of, least_rest_of
from pairedthrows.looker import look
from pairedthrows.prices import price
from pairedthrows.reader import read
from pairedthrows.runs import told_table
from pairedthrows.together import behind, beside, exchanged
from pairedthrows.words import is_name
from pairedthrows.writer import show

LOW = [programs.right_program(seed, programs.low_throw) for seed in range(200)]
STEEPNESSES = [(p, q) for q in range(2, 10) for p in range(1, q) if Fraction(p, q).denominator == q]


def value_names(rows):
    names = set()
    for row in programs.inner_first(rows):
        if row[0] in programs.THROWS + ("let",):
            names.add(row[1])
        if row[0] in ("let", "tell", "when"):
            names |= programs.names_in(row[2] if row[0] == "let" else row[1])
    return names


def leaves(thing):
    """All that stands in rows or terms, from left to right, with the lengths of the tuples."""
    if isinstance(thing, tuple):
        yield len(thing)
        for part in thing:
            yield from leaves(part)
    else:
        yield thing


def of_kinds(program, kinds):
    """The same program with its kinds called otherwise."""
    return (kinds, program[1])


def multiplied(one, other):
    pairs = {}
    for (x, share), (y, part) in itertools.product(one, other):
        pairs[x + y] = programs.pair(Fraction(*share) * Fraction(*part))
    return tuple(sorted(pairs.items()))


def refused(test, asked, *arguments):
    for _ in range(2):
        with test.assertRaises(ThrowError) as caught:
            asked(*arguments)
        test.assertIs(type(caught.exception), NoFit)


class Together(unittest.TestCase):
    def renamed(self, told, rows, one, other):
        """The rows are told, but for names of values that the first one has: unlike ones that stand nowhere."""
        clashing = value_names(one[1]) & value_names(other[1])
        taken = value_names(one[1]) | value_names(other[1]) | set(one[0]) | set(other[0])
        found = {}
        for new, old in itertools.zip_longest(leaves(told), leaves(rows)):
            if new != old:
                self.assertIn(old, clashing)
                self.assertEqual(found.setdefault(old, new), new)
        self.assertEqual(set(found), clashing)
        self.assertEqual(len(set(found.values())), len(found))
        for name in found.values():
            self.assertTrue(is_name(name))
            self.assertNotIn(name, taken)
        # No name is kept in one place and another one in another.
        self.assertFalse(value_names(told) & clashing)
        return len(found)

    def behind(self, one, other):
        told = behind(one, other)
        self.assertEqual(behind(one, other), told)
        self.assertIs(look(told), True)
        self.assertEqual(read(show(told)), told)
        self.assertEqual(told[0], one[0])
        self.assertEqual(told[1][:len(one[1])], one[1])
        self.renamed(told[1][len(one[1]):], other[1], one, other)
        return told

    def beside(self, one, other):
        told = beside(one, other)
        self.assertEqual(beside(one, other), told)
        self.assertIs(look(told), True)
        self.assertEqual(read(show(told)), told)
        self.assertEqual(told[0], one[0] + other[0])
        self.assertEqual(told[1][:len(one[1])], programs.wide(one[1], (), (0,) * len(other[0])))
        self.renamed(told[1][len(one[1]):], programs.wide(other[1], (0,) * len(one[0]), ()), one, other)
        return told

    def tables_multiply(self, told, one, other, crowd, one_crowd, other_crowd):
        try:
            table = told_table(told, crowd)
        except TooMany:
            return 0
        wanted = multiplied(told_table(one, one_crowd), told_table(other, other_crowd))
        self.assertEqual(table, wanted)
        return len(wanted) > 1


class Behind(Together):
    def test_names_that_both_have(self):
        one = read("kinds a b\nladder x 1/2 0 3 of a\nlet y x\ntell y")
        other = read("kinds a b\nflat x 1 0 3 of b\nlet z (+ x 1)\nwhen (< x z)\ntimes 2\nlet y x\ntell (* y (+ x z))\n"
                     "end\nelse\nlet x 2\ntell z\ntell x\nend")
        told = self.behind(one, other)
        x, y = told[1][3][1], told[1][5][2][0][2][0][1]
        self.assertEqual(show((one[0], told[1][3:])),
                         show(other).replace(" x", " \0").replace(" y", " \1").replace(" \0", " " + x)
                         .replace(" \1", " " + y))
        self.assertEqual(len({x, y, "x", "y", "z", "a", "b"}), 7)

    def test_names_that_one_alone_has_are_kept(self):
        one, other = read("kinds a\nlet x 1\ntell x"), read("kinds a\nladder y 1/2 0 3 of a\ntell y")
        self.assertEqual(self.behind(one, other), (("a",), one[1] + other[1]))
        self.assertEqual(self.behind(other, one), (("a",), other[1] + one[1]))

    def test_names_of_kinds_never_hinder(self):
        one = read("kinds x y\nladder z 1/2 0 3 of x\ntell z")
        other = read("kinds x y\nladder x 1/2 0 3 of x y\ntell x")
        self.assertEqual(self.behind(one, other), (("x", "y"), one[1] + other[1]))
        self.assertEqual(self.behind(other, one), (("x", "y"), other[1] + one[1]))
        # But a new name is no kind's.
        one = read("kinds a b c\nladder d 1/2 0 3 of a\ntell d")
        name = self.behind(one, one)[1][2][1]
        self.assertNotIn(name, ("a", "b", "c", "d"))

    def test_new_names_are_none_that_stand_behind(self):
        letters = "abcdefghijklmnopqrstuvwxyz"
        one = read("kinds k\nlet x 1\ntell x")
        other = read("kinds k\nlet x 1\n" + "".join(f"let {letter} x\n" for letter in letters) + "tell (+ x z)")
        self.behind(one, other)
        self.behind(other, one)
        self.behind(other, other)

    def test_again_and_again(self):
        program = read("kinds a\n" + "".join(f"let {name} 1\n" for name in "abcdefghijk") + "tell k")
        many = program
        for _ in range(7):
            many = behind(many, many)
        names = [row[1] for row in many[1] if row[0] == "let"]
        self.assertEqual(len(names), 11 * 128)
        self.assertEqual(len(set(names)), len(names))
        self.assertTrue(all(map(is_name, names)))
        self.assertIs(look(many), True)
        self.assertEqual(read(show(many)), many)
        self.assertEqual(told_table(many, (0,)), (((1,) * 128, (1, 1)),))

    def test_three_one_behind_another(self):
        one = read("kinds a\nladder x 1/2 0 1 of a\ntell x")
        self.behind(self.behind(one, one), one)
        told = self.behind(one, self.behind(one, one))
        self.assertEqual(len(value_names(told[1])), 3)
        self.assertEqual(price(told, 0), ((8, 1), (0, 1)))

    def test_tables_and_prices(self):
        dice = random.Random(33)
        parted = 0
        for one, other in zip(LOW, LOW[7:] + LOW[:7]):
            kinds = ("a", "b", "c")[:len(one[0])]
            if len(other[0]) != len(kinds):
                continue
            one, other = of_kinds(one, kinds), of_kinds(other, kinds)
            told = self.behind(one, other)
            crowd = tuple(dice.choice((0, 1, 2, 10 ** 6)) for _ in kinds)
            parted += self.tables_multiply(told, one, other, crowd, crowd, crowd)
            for kind in range(len(kinds)):
                (f, r), (g, s) = price(one, kind), price(other, kind)
                wanted = (Fraction(*f) * Fraction(*g), Fraction(*r) + Fraction(*s))
                self.assertEqual(price(told, kind), tuple(map(programs.pair, wanted)))
        self.assertGreater(parted, 15)

    def test_no_fit(self):
        tell = (("tell", ("num", 1)),)
        kinds = (("a",), ("b",), ("a", "b"), ("b", "a"), ("a", "b", "c"), ("a", "c", "b"))
        for one, other in itertools.permutations(kinds, 2):
            refused(self, behind, (one, tell), (other, tell))


class Beside(Together):
    def test_by_hand(self):
        one = read("kinds a b\nladder x 1/2 0 3 of a b b\nchoose y 1/2 0 3 of a | -\ntell (+ x y)")
        other = read("kinds c\nwhen 1\nflat x 1 0 3 of c c\nelse\nfirst x 1 1/2 1/3 0 3 of c | -\nend\ntell x")
        told = self.beside(one, other)
        self.assertEqual(told[1][0], ("ladder", "x", (1, 2, 0), (1, 2), 0, 3))
        self.assertEqual(told[1][1], ("choose", "y", ((1, 0, 0), (0, 0, 0)), (1, 2), 0, 3))
        name = told[1][4][1][1]
        self.assertEqual(told[1][3][2:], ((("flat", name, (0, 0, 2), 1, 0, 3),),
                                          (("first", name, 1, (1, 2), (1, 3), ((0, 0, 1), (0, 0, 0)), 0, 3),)))
        told = self.beside(other, one)
        self.assertEqual(told[1][0][2], (("flat", "x", (2, 0, 0), 1, 0, 3),))
        self.assertEqual(told[1][2][2], (0, 1, 2))

    def test_names_of_kinds_never_hinder(self):
        one = read("kinds x\nladder y 1/2 0 3 of x\ntell y")
        other = read("kinds y\nladder x 1/2 0 3 of y\ntell x")
        told = self.beside(one, other)
        self.assertEqual([row[1] for row in told[1] if row[0] == "ladder"], ["y", "x"])

    def test_three_beside_one_another(self):
        one, other, third = (read(f"kinds {kind}\nladder x 1/2 0 1 of {kind}\ntell x") for kind in "abc")
        told = self.beside(self.beside(one, other), third)
        self.assertEqual(len(value_names(told[1])), 3)
        for kind in range(3):
            self.assertEqual(price(told, kind), ((2, 1), (0, 1)))
        self.assertEqual([row[2] for row in told[1] if row[0] == "ladder"], [(1, 0, 0), (0, 1, 0), (0, 0, 1)])
        self.beside(one, self.beside(other, third))

    def test_tables_prices_and_the_least(self):
        dice = random.Random(34)
        parted, least = 0, 0
        for one, other in zip(LOW, LOW[11:] + LOW[:11]):
            if len(one[0]) + len(other[0]) > 3:
                continue
            one, other = of_kinds(one, ("a", "x")[:len(one[0])]), of_kinds(other, ("y", "c")[:len(other[0])])
            told = self.beside(one, other)
            crowd = tuple(dice.choice((0, 1, 2, 10 ** 6)) for _ in told[0])
            split = len(one[0])
            parted += self.tables_multiply(told, one, other, crowd, crowd[:split], crowd[split:])
            for kind in range(len(told[0])):
                alone = (one, kind) if kind < split else (other, kind - split)
                self.assertEqual(price(told, kind), price(*alone))
                try:
                    together = least_factor_of(told, kind)[0], least_rest_of(told, kind, (11, 10))[0]
                except TooMany:
                    continue
                self.assertEqual(together, (least_factor_of(*alone)[0], least_rest_of(*alone, (11, 10))[0]))
                least += together[0] != (1, 1)
        self.assertGreater(parted, 20)
        self.assertGreater(least, 20)

    def test_no_fit(self):
        tell = (("tell", ("num", 1)),)
        for one, other in ((("a",), ("a",)), (("a", "b"), ("b",)), (("b",), ("a", "b")), (("a", "b", "c"), ("d",)),
                           (("d",), ("a", "b", "c")), (("a", "b"), ("c", "d")), (("a", "b", "c"), ("d", "e", "f")),
                           (("a", "b", "c"), ("a", "b", "c"))):
            refused(self, beside, (one, tell), (other, tell))
        for one, other in ((("a",), ("b",)), (("a", "b"), ("c",)), (("a",), ("b", "c"))):
            self.assertEqual(beside((one, tell), (other, tell)), (one + other, tell + tell))


class Exchanged(unittest.TestCase):
    def test_by_hand(self):
        program = read("kinds a\nladder x 1/2 0 5 of a\nwhen x\ntimes 2\nladder y 1/3 1 4 of a a\nend\nelse\n"
                       "ladder x 1/2 0 5 of a\nend\ntell x")
        for number, old, new in ((0, "ladder x 1/2 0 5 of a\nwhen", "ladder x 7/9 0 5 of a\nwhen"),
                                 (3, "1/3", "7/9"), (4, "else\nladder x 1/2", "else\nladder x 7/9")):
            for _ in range(2):
                self.assertEqual(exchanged(program, number, (7, 9)), read(show(program).replace(old, new)))

    def test_no_ladder_stands_there(self):
        program = read("kinds a\nladder x 1/2 0 5 of a\nwhen x\ntimes 2\nflat y 1 1 4 of a a\nend\nelse\n"
                       "choose z 1/2 0 5 of a\nfirst z 1 1/2 1/2 0 5 of a\nend\nlet u 1\ntell x")
        for number in list(range(1, 12)) + [-1, -7, -8, -9, 99, 10 ** 30, -10 ** 30]:
            refused(self, exchanged, program, number, (7, 9))
        exchanged(program, 0, (7, 9))

    def test_many(self):
        dice = random.Random(35)
        counts = [0, 0]
        for program in LOW + [programs.right_program(seed) for seed in range(150)]:
            rows = list(programs.inner_first(program[1]))
            for number in range(-len(rows) - 1, len(rows) + 3):
                steepness = dice.choice(STEEPNESSES)
                is_ladder = 0 <= number < len(rows) and rows[number][0] == "ladder"
                counts[is_ladder] += 1
                if is_ladder:
                    self.one(program, number, rows, steepness)
                else:
                    refused(self, exchanged, program, number, steepness)
        self.assertGreater(min(counts), 100)

    def one(self, program, number, rows, steepness):
        told = exchanged(program, number, steepness)
        self.assertEqual(exchanged(told, number, rows[number][3]), program)
        self.assertIs(look(told), True)
        self.assertEqual(told[0], program[0])
        now = list(programs.inner_first(told[1]))
        self.assertEqual(len(now), len(rows))
        self.assertEqual(now[number], rows[number][:3] + (steepness,) + rows[number][4:])
        for at, (one, other) in enumerate(zip(now, rows)):
            if at != number:
                self.assertEqual(one[:2], other[:2])
        old, new = Fraction(*rows[number][3]), Fraction(*steepness)
        for kind in range(len(program[0])):
            (f, r), (g, s) = price(program, kind), price(told, kind)
            self.assertEqual(r, s)
            if new <= old:
                self.assertGreaterEqual(Fraction(*g), Fraction(*f))
            if new >= old:
                self.assertLessEqual(Fraction(*g), Fraction(*f))


if __name__ == "__main__":
    unittest.main()
