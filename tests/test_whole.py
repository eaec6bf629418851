"""The whole interface: its names and arguments, and that asking changes nothing (point 2)."""

import copy
import importlib
import inspect
import unittest

from pairedthrows.desk import Desk
from pairedthrows.errors import ThrowError
from pairedthrows.papers import paper_of
from pairedthrows.reader import read

INTERFACE = """
words is_name text
fractions lowest top bottom
fractions added one other
fractions times one other
fractions power one k
fractions less one other
tables is_table thing
tables merged pairs
reader read_term text
reader read text
writer show_term term
writer show program
looker look program
parts rows_in program
parts throws_in program
parts value_of term values
throws number_of row crowd
throws share_of steepness k
throws tail_of steepness k
throws thrown row crowd
runs runs_of program crowd most=400
runs told_table program crowd most=400
compared least_rest one other factor
compared least_factor one other
compared breaking one other factor
paired paired one other pairs factor rest
paired shows one other pairs factor rest told
rungs may_pair low high s
rungs rungs_paired steepness low high n m s
again rows_between a b low high
again thrown_again table low rows
needed needed program
needed idle program
prices price_of_row row kind
prices price program kind
prices greatest_price program
papers part_at program place
papers paper_shows program kind paper
papers paper_of program kind
crowds tops program
crowds all_crowds program most=400
least least_rest_of program kind factor most=400
least least_factor_of program kind most=400
together behind one other
together beside one other
together exchanged program row steepness
trimmed trimmed program
holds holds program kind factor rest most=400
""".strip().split("\n")

PROGRAM = read("kinds a b\nladder x 1/2 0 3 of a b b\nflat y 1 0 2 of a\nwhen (< x 2)\nlet z (+ x 1)\nelse\n"
               "let z 0\nend\ntimes 2\ntell z\nend\nlet u y\ntell x")
BESIDE = read("kinds c\nchoose x 1/2 0 3 of c | -\nfirst y 1 1/2 1/3 0 3 of c c | -\ntell (+ x y)")
TERM = ("op", "+", ("name", "x"), ("op", "*", ("num", 3), ("name", "y")))
ONE = ((0, (1, 2)), (1, (1, 3)), (2, (1, 6)))
OTHER = ((0, (1, 6)), (1, (1, 3)), (2, (1, 2)))
PAIRS = ((0, 0), (0, 1), (1, 1), (2, 2))
THIRD = (1, 3)
HALF = (1, 2)

ASKED = [
    ("words", "is_name", "abc"), ("words", "is_name", "of"),
    ("fractions", "lowest", 6, 4), ("fractions", "added", HALF, THIRD), ("fractions", "times", HALF, THIRD),
    ("fractions", "power", HALF, 3), ("fractions", "less", HALF, THIRD),
    ("tables", "is_table", ONE), ("tables", "is_table", ONE[1:]),
    ("tables", "merged", [(1, HALF), (0, THIRD), (1, (1, 6)), (5, (0, 1))]),
    ("reader", "read_term", "(+ x 1)"), ("reader", "read_term", "(+ x"), ("reader", "read", "kinds a\ntell 1"),
    ("reader", "read", "kinds a\ntell"), ("writer", "show_term", TERM), ("writer", "show", PROGRAM),
    ("looker", "look", PROGRAM), ("looker", "look", (("a",), ())),
    ("parts", "rows_in", PROGRAM), ("parts", "throws_in", PROGRAM),
    ("parts", "value_of", TERM, {"x": 5, "y": 999999, "z": 1}),
    ("throws", "number_of", PROGRAM[1][0], (1, 7)), ("throws", "share_of", HALF, -3), ("throws", "tail_of", HALF, -3),
    ("throws", "thrown", PROGRAM[1][0], (1, 0)), ("throws", "thrown", BESIDE[1][1], (1,)),
    ("runs", "runs_of", PROGRAM, (1, 0)), ("runs", "runs_of", PROGRAM, (1, 0), 5),
    ("runs", "told_table", PROGRAM, (1, 0)), ("runs", "told_table", PROGRAM, (1, 0), 5),
    ("compared", "least_rest", ONE, OTHER, (1, 1)), ("compared", "least_factor", ONE, OTHER),
    ("compared", "breaking", ONE, OTHER, (1, 1)),
    ("paired", "paired", ONE, OTHER, PAIRS, (2, 1), (1, 6)), ("paired", "paired", ONE, OTHER, PAIRS, (1, 1), (0, 1)),
    ("paired", "shows", ONE, OTHER, PAIRS, (1, 1), HALF, ("paired", {(0, 0): (1, 6), (1, 1): THIRD})),
    ("paired", "shows", ONE, OTHER, PAIRS, (1, 1), (0, 1), ("broken", (2, 1))),
    ("rungs", "may_pair", 0, 4, 2), ("rungs", "rungs_paired", HALF, 0, 4, 1, 2, 1),
    ("again", "rows_between", THIRD, HALF, 0, 3), ("again", "rows_between", HALF, THIRD, 0, 3),
    ("again", "thrown_again", ONE, 0, (ONE, OTHER, ONE)),
    ("needed", "needed", PROGRAM), ("needed", "idle", PROGRAM),
    ("prices", "price_of_row", PROGRAM[1][0], 1), ("prices", "price", PROGRAM, 0), ("prices", "greatest_price", PROGRAM),
    ("papers", "part_at", PROGRAM, (2, 0)), ("papers", "part_at", PROGRAM, (2, 2)),
    ("papers", "paper_shows", PROGRAM, 1, paper_of(PROGRAM, 1)), ("papers", "paper_shows", PROGRAM, 1, ()),
    ("papers", "paper_of", PROGRAM, 1),
    ("crowds", "tops", PROGRAM), ("crowds", "all_crowds", PROGRAM), ("crowds", "all_crowds", PROGRAM, 2),
    ("least", "least_rest_of", PROGRAM, 1, (2, 1)), ("least", "least_rest_of", PROGRAM, 1, (2, 1), 7),
    ("least", "least_factor_of", PROGRAM, 1), ("least", "least_factor_of", PROGRAM, 1, 7),
    ("together", "behind", PROGRAM, PROGRAM), ("together", "behind", PROGRAM, BESIDE),
    ("together", "beside", PROGRAM, BESIDE), ("together", "beside", PROGRAM, PROGRAM),
    ("together", "exchanged", PROGRAM, 0, THIRD), ("together", "exchanged", PROGRAM, 1, THIRD),
    ("trimmed", "trimmed", PROGRAM),
    ("holds", "holds", PROGRAM, 1, (4, 1), (0, 1)), ("holds", "holds", PROGRAM, 1, (1, 1), (0, 1)),
    ("holds", "holds", PROGRAM, 1, (1, 1), (9, 10)), ("holds", "holds", PROGRAM, 1, (1, 1), (0, 1), 3),
]

ROWS = ("shares 1 0", "price b", "least b", "rest b 2/1", "holds b 4/1 0/1", "holds b 1/1 0/1", "holds b 1/1 9/10", "text")


def told(module, name, *arguments):
    """What is told, or the refusal's sort and fields."""
    try:
        return getattr(importlib.import_module("pairedthrows." + module), name)(*arguments)
    except ThrowError as refusal:
        return (type(refusal).__name__, dict(vars(refusal)))


def spoil(thing):
    """Changes every list and dict in it."""
    if isinstance(thing, (tuple, list)):
        for part in thing:
            spoil(part)
    if isinstance(thing, list):
        thing.reverse()
        thing.append("spoiled")
    if isinstance(thing, dict):
        thing.clear()
        thing["spoiled"] = True


class Interface(unittest.TestCase):
    def test_names_and_arguments(self):
        for line in INTERFACE:
            module, name, *arguments = line.split(" ")
            asked = getattr(importlib.import_module("pairedthrows." + module), name)
            self.assertEqual([str(one) for one in inspect.signature(asked).parameters.values()], arguments, line)

    def test_the_desk(self):
        self.assertEqual(list(inspect.signature(Desk).parameters), [])
        self.assertEqual(list(inspect.signature(Desk().say).parameters), ["row"])

    def test_each_name_is_asked_here(self):
        self.assertEqual({line[:2] for line in ASKED}, {tuple(line.split(" ")[:2]) for line in INTERFACE})


class AskingChangesNothing(unittest.TestCase):
    def test_asked_again_all_is_told_the_same(self):
        first = [copy.deepcopy(told(*asked)) for asked in ASKED]
        for asked, wanted in list(zip(ASKED, first)) + list(zip(reversed(ASKED), reversed(first))):
            self.assertEqual(told(*asked), wanted, asked)

    def test_nothing_that_is_handed_in_is_changed(self):
        for asked in ASKED:
            kept = copy.deepcopy(asked)
            told(*asked)
            self.assertEqual(asked, kept)

    def test_what_is_told_is_the_asker_s_own(self):
        for asked in ASKED:
            handed = copy.deepcopy(asked)
            answer = told(*handed)
            wanted = copy.deepcopy(answer)
            spoil(answer)
            self.assertEqual(handed, asked)
            self.assertEqual(told(*handed), wanted, asked)

    def test_what_is_done_later_to_what_was_handed_in_changes_nothing(self):
        for asked in ASKED:
            handed = copy.deepcopy(asked)
            answer = told(*handed)
            wanted = copy.deepcopy(answer)
            spoil(handed)
            self.assertEqual(answer, wanted)

    def test_a_desk_that_keeps_the_same_program(self):
        desk = Desk()
        row = "keep kinds a b ; ladder x 1/2 0 3 of a b b ; flat y 1 0 2 of a ; tell x"
        self.assertEqual(desk.say(row), "kept")
        first = [desk.say(row) for row in ROWS]
        for _ in range(2):
            self.assertEqual([desk.say(row) for row in ROWS], first)
        self.assertEqual(desk.say(row), "kept")
        self.assertEqual([desk.say(row) for row in reversed(ROWS)], first[::-1])


if __name__ == "__main__":
    unittest.main()
