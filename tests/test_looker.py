"""Programs looked at (points 10 to 12)."""

import collections
import random
import unittest

from pairedthrows.errors import NoProgram
from pairedthrows.looker import look
from pairedthrows.reader import read
from programs import deep_first_rows, deep_times, deep_whens, make_rows, make_program


def refusal(program):
    try:
        answer = look(program)
    except NoProgram as error:
        return (error.word, error.row)
    return answer


def looked(rows, kinds="a b"):
    return refusal(read(f"kinds {kinds}\n" + rows.replace("/", "\n").replace(":", "/")))


def terms_of(row):
    return {"let": row[2:3], "tell": row[1:2], "when": row[1:2]}.get(row[0], ())


def names_of(term):
    if term[0] == "op":
        return names_of(term[2]) | names_of(term[3])
    return {term[1]} if term[0] == "name" else set()


def tells_of(rows):
    many = 0
    for row in rows:
        if row[0] == "tell":
            many += 1
        if row[0] == "times":
            many += row[1] * tells_of(row[2])
        if row[0] == "when":
            many += tells_of(row[2])
    return many


class Plain:
    """What the document asks, said again by calls: the row's faults as they come, the first at once."""

    def __init__(self):
        self.number = -1
        self.tell = False

    def go(self, rows, names):
        names = set(names)
        for row in rows:
            self.number += 1
            self.check(row, names)
            if row[0] == "when":
                names = self.go(row[2], names) & self.go(row[3], names)
            elif row[0] == "times":
                names = self.go(row[2], names)
            elif row[0] == "tell":
                self.tell = True
            else:
                names.add(row[1])
        return names

    def check(self, row, names):
        if row[0] in ("ladder", "flat", "choose") and row[4] > row[5]:
            raise NoProgram("range", self.number)
        if row[0] == "first":
            mark, (p, q), low, high = row[2], row[4], row[6], row[7]
            if high <= low or mark < low or mark > high or p * 2 > q:
                raise NoProgram("range", self.number)
        for term in terms_of(row):
            if names_of(term) - names:
                raise NoProgram("unknown", self.number)
        if row[0] == "when" and tells_of(row[2]) != tells_of(row[3]):
            raise NoProgram("tells", self.number)


def plain_refusal(program):
    kinds, rows = program
    if not 0 < len(kinds) < 4:
        return ("kinds", -1)
    if len(set(kinds)) < len(kinds):
        return ("twice", -1)
    plain = Plain()
    try:
        plain.go(rows, ())
    except NoProgram as error:
        return (error.word, error.row)
    return True if plain.tell else ("silent", -1)


TELL = ("tell", ("num", 1))


class LetBy(unittest.TestCase):
    def test_let_by(self):
        for rows in ("tell 1", "ladder x 1:2 0 5 of a/tell x", "ladder x 1:2 5 5 of a/tell x", "flat x 4 9 9 of b/tell 0",
                     "choose x 8:9 0 0 of a | b/tell x", "first x 0 8:9 1:2 0 1 of a/tell x",
                     "first x 1 8:9 1:2 0 1 of a/tell x", "first x 5 1:2 1:9 3 9 of a/tell x",
                     "let x 1/let x (+ x x)/tell x", "when 1/tell 1/else/tell 2/end", "times 3/tell 1/end",
                     "when 1/else/end/tell 1", "times 2/end/tell 1"):
            self.assertIs(looked(rows), True, rows)

    def test_names_of_kinds_and_of_values(self):
        self.assertIs(looked("ladder a 1:2 0 5 of a b/let b (+ a 1)/tell (* a b)"), True)
        self.assertEqual(looked("ladder x 1:2 0 5 of a/tell a"), ("unknown", 1))
        self.assertEqual(looked("let a b/tell a"), ("unknown", 0))

    def test_one_to_three_kinds(self):
        for kinds in (("a",), ("a", "b"), ("a", "b", "c")):
            self.assertIs(refusal((kinds, (TELL,))), True)


class Refused(unittest.TestCase):
    def all_told(self, cases):
        for rows, wanted in cases:
            self.assertEqual(looked(rows), wanted, rows)

    def test_kinds(self):
        for kinds in ((), ("a", "b", "c", "d"), ("a", "b", "c", "a"), ("a",) * 7):
            self.assertEqual(refusal((kinds, (TELL,))), ("kinds", -1))

    def test_twice(self):
        for kinds in (("a", "a"), ("a", "b", "a"), ("b", "a", "a"), ("a", "a", "b"), ("c", "c", "c")):
            self.assertEqual(refusal((kinds, (TELL,))), ("twice", -1))

    def test_range(self):
        self.all_told([
            ("ladder x 1:2 1 0 of a/tell x", ("range", 0)), ("flat x 1 9 8 of a/tell x", ("range", 0)),
            ("tell 1/choose x 1:2 5 0 of a/tell x", ("range", 1)),
            ("first x 3 1:2 1:2 3 3 of a/tell x", ("range", 0)), ("first x 3 1:2 1:2 4 2 of a/tell x", ("range", 0)),
            ("first x 1 1:2 1:2 2 5 of a/tell x", ("range", 0)), ("first x 6 1:2 1:2 2 5 of a/tell x", ("range", 0)),
            ("first x 3 1:2 5:9 2 5 of a/tell x", ("range", 0)), ("first x 3 1:2 2:3 2 5 of a/tell x", ("range", 0)),
            ("first x 2 1:2 4:9 2 5 of a/tell x", True), ("first x 5 1:2 1:2 2 5 of a/tell x", True)])

    def test_unknown(self):
        self.all_told([
            ("tell x", ("unknown", 0)), ("let x x/tell x", ("unknown", 0)), ("let x 1/tell (+ x (* 1 y))", ("unknown", 1)),
            ("when x/tell 1/else/tell 1/end", ("unknown", 0)), ("tell x/let x 1", ("unknown", 0)),
            ("flat x 1 0 5 of a/tell (+ (+ y 1) x)", ("unknown", 1))])

    def test_names_set_in_a_when(self):
        self.all_told([
            ("when 1/let x 1/else/let x 2/end/tell x", True),
            ("when 1/let x 1/else/end/tell x", ("unknown", 2)),
            ("when 1/else/let x 1/end/tell x", ("unknown", 2)),
            ("when 1/let x 1/else/let y x/end/tell 1", ("unknown", 2)),
            ("when 1/let x 1/let y 1/else/let y 2/let z 1/end/tell y", True),
            ("when 1/let x 1/let y 1/else/let y 2/let z 1/end/tell x", ("unknown", 5)),
            ("when 1/let x 1/let y 1/else/let y 2/let z 1/end/tell z", ("unknown", 5)),
            ("let x 1/when x/let x 2/else/end/tell x", True),
            ("let x 1/when x/else/let x x/end/tell x", True),
            ("when 1/flat x 1 0 5 of a/else/ladder x 1:2 0 5 of a/end/tell x", True),
            ("when 1/when 1/let x 1/else/let x 1/end/else/let x 1/end/tell x", True),
            ("when 1/when 1/let x 1/else/end/else/let x 1/end/tell x", ("unknown", 4))])

    def test_names_set_in_a_times(self):
        self.all_told([
            ("times 2/let x 1/end/tell x", True), ("times 2/tell x/let x 1/end", ("unknown", 1)),
            ("let x 0/times 3/tell x/let x (+ x 1)/end", True),
            ("when 1/times 1/let x 1/end/else/end/tell x", ("unknown", 3)),
            ("times 2/when 1/let x 1/else/let x 2/end/tell x/end/tell x", True)])

    def test_tells(self):
        self.all_told([
            ("when 1/tell 1/else/end", ("tells", 0)), ("when 1/else/tell 1/end", ("tells", 0)),
            ("when 1/times 3/tell 1/end/else/tell 1/tell 1/tell 1/end", True),
            ("when 1/times 3/tell 1/end/else/tell 1/tell 1/end", ("tells", 0)),
            ("when 1/times 3/tell 1/end/else/tell 1/end", ("tells", 0)),
            ("tell 1/when 1/times 2/times 3/tell 1/end/end/else/times 3/times 2/tell 1/end/end/end", True),
            ("tell 1/when 1/times 2/tell 1/tell 1/end/else/times 3/tell 1/end/end", ("tells", 1)),
            ("times 2/tell 1/when 1/else/tell 1/end/end", ("tells", 2))])

    def test_tells_of_a_when_within(self):
        self.all_told([
            ("when 1/when 1/tell 1/else/tell 2/end/else/tell 3/end", True),
            # The inner one alone is amiss: the outer one counts its first rows.
            ("when 1/when 1/tell 1/else/end/else/tell 3/end", ("tells", 1)),
            ("when 1/when 1/else/tell 1/end/else/end", ("tells", 1)),
            ("when 1/when 1/else/tell 1/end/else/tell 1/end", ("tells", 0)),
            ("when 1/tell 1/else/when 1/tell 1/else/tell 1/tell 1/end/end", ("tells", 2)),
            ("when 1/tell 1/else/when 1/tell 1/tell 1/else/tell 1/end/end", ("tells", 0)),
            ("when 1/times 2/when 1/tell 1/else/end/end/else/tell 1/tell 1/end", ("tells", 2))])

    def test_silent(self):
        self.assertEqual(refusal((("a",), ())), ("silent", -1))
        self.all_told([
            ("let x 1", ("silent", -1)), ("ladder x 1:2 0 5 of a", ("silent", -1)),
            ("when 1/else/end/times 3/let x 1/end", ("silent", -1)),
            ("times 1/times 1/tell 1/end/end", True)])

    def test_the_first_that_is_due(self):
        bad_throw = ("ladder", "x", (0,) * 4, (1, 2), 5, 0)
        self.assertEqual(refusal((("a", "a", "b", "c"), (bad_throw,))), ("kinds", -1))
        self.assertEqual(refusal((("a", "a"), (("tell", ("name", "x")),))), ("twice", -1))
        self.all_told([
            ("tell x/ladder x 1:2 5 0 of a", ("unknown", 0)), ("ladder x 1:2 5 0 of a/tell y", ("range", 0)),
            ("when x/tell 1/else/end", ("unknown", 0)), ("when 1/tell x/else/end", ("tells", 0)),
            ("when 1/ladder x 1:2 5 0 of a/tell 1/else/end", ("tells", 0)),
            ("when 1/tell x/else/tell 1/end/when 1/tell 1/else/end", ("unknown", 1)),
            ("when 1/tell 1/else/flat x 0 1 0 of a/tell x/end/tell z", ("range", 2)),
            ("flat x 1 5 0 of a", ("range", 0)), ("let x y", ("unknown", 0)),
            ("times 2/tell x/ladder x 1:2 5 0 of a/end/tell y", ("unknown", 1))])

    def test_rows_are_counted_within_one_another(self):
        head = "times 2/when 1/tell 1/else/when 1/tell 1/else/tell 2/end/end/end/times 1/end/"
        self.assertIs(looked(head + "tell 1"), True)
        self.assertEqual(looked(head + "tell x"), ("unknown", 7))
        self.assertEqual(looked(head + "flat x 1 5 0 of a"), ("range", 7))


class Made(unittest.TestCase):
    def test_as_the_document_says_it_by_calls(self):
        told = collections.Counter()
        for seed in range(6000):
            dice = random.Random(seed)
            kinds = tuple(dice.choice("abcde") for _ in range(dice.choice((0, 1, 1, 1, 2, 3, 4))))
            rows = make_rows(dice, kinds, 3)
            # Most made terms ask for names, so most programs begin with some.
            ahead = tuple(("let", name, ("num", 1)) for name in ("x", "y", "z", "a", "b", "abcdefgh")[:dice.randrange(9)])
            program = (kinds, ahead + rows)
            wanted = plain_refusal(program)
            self.assertEqual(refusal(program), wanted, program)
            told[wanted if wanted is True else wanted[0]] += 1
        for word in (True, "kinds", "twice", "range", "unknown", "tells", "silent"):
            self.assertGreater(told[word], 30, told)

    def test_deep(self):
        for depth in (1, 5, 300, 3000):
            rows = deep_times(depth)[1][1]
            self.assertIs(refusal((("a",), rows)), True)
            self.assertEqual(refusal((("a",), rows + (("tell", ("name", "x")),))), ("unknown", depth + 1))
        self.assertEqual(refusal(deep_whens(1)[1]), True)
        self.assertEqual(refusal(deep_whens(300)[1]), ("tells", 0))
        self.assertEqual(refusal(deep_first_rows(300)[1]), ("silent", -1))

    def test_asked_again(self):
        for seed in range(50):
            program = make_program(seed)
            self.assertEqual(refusal(program), refusal(program))


if __name__ == "__main__":
    unittest.main()
