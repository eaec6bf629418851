"""Programs and terms read from their texts (points 5 to 9)."""

import random
import re
import string
import unittest

from pairedthrows.errors import NoText
from pairedthrows.reader import read, read_term
from pairedthrows.writer import show, show_term
from programs import deep_first_rows, deep_times, deep_whens, make_program, make_term, same

ONE = ("num", 1)
X = ("name", "x")

ROWS = [
    ("ladder x 1/2 0 5 of a", ("ladder", "x", (1, 0), (1, 2), 0, 5)),
    ("ladder x 8/9 9 0 of a a a b b", ("ladder", "x", (3, 2), (8, 9), 9, 0)),
    ("ladder abcdefgh 2/3 3 3 of -", ("ladder", "abcdefgh", (0, 0), (2, 3), 3, 3)),
    ("flat x 0 0 9 of b", ("flat", "x", (0, 1), 0, 0, 9)),
    ("flat x 4 2 7 of a b", ("flat", "x", (1, 1), 4, 2, 7)),
    ("choose x 1/9 0 5 of a", ("choose", "x", ((1, 0),), (1, 9), 0, 5)),
    ("choose x 3/4 1 5 of a | - | b b | a b b b",
     ("choose", "x", ((1, 0), (0, 0), (0, 2), (1, 3)), (3, 4), 1, 5)),
    ("first x 3 1/2 1/3 0 5 of a", ("first", "x", 3, (1, 2), (1, 3), ((1, 0),), 0, 5)),
    ("first x 9 7/9 5/8 1 0 of - | a a b", ("first", "x", 9, (7, 9), (5, 8), ((0, 0), (2, 1)), 1, 0)),
    ("let x 0", ("let", "x", ("num", 0))),
    ("let y (+ x 1)", ("let", "y", ("op", "+", X, ONE))),
    ("tell 999", ("tell", ("num", 999))),
    ("tell (< (* x x) (- 1 (= 1 x)))",
     ("tell", ("op", "<", ("op", "*", X, X), ("op", "-", ONE, ("op", "=", ONE, X))))),
]

BAD_ROWS = [
    "", " ", "x", "rows", "kinds", "kinds a b", "of", "-", "|", "else", "end", "Tell 1", "TELL 1",
    # ladder
    "ladder", "ladder x", "ladder x 1/2", "ladder x 1/2 0", "ladder x 1/2 0 5", "ladder x 1/2 0 5 of",
    "ladder x 1/2 0 5 of ", "ladder x 1/2 0 5 a", "ladder x 1/2 0 5 5 of a", "ladder x 1/2 5 of a",
    "ladder 1/2 0 5 of a", "ladder x 0 5 of a", "ladder of 1/2 0 5 of a", "ladder ladder 1/2 0 5 of a",
    "ladder abcdefghi 1/2 0 5 of a", "ladder x1 1/2 0 5 of a", "ladder X 1/2 0 5 of a",
    "ladder  x 1/2 0 5 of a", "ladder x 1/2 0 5  of a", "ladder x 1/2 0 5 of  a", "ladder x 1/2 0 5 of a ",
    " ladder x 1/2 0 5 of a", "ladder x 1/2 0 5 of a  b", "ladder x 1/2 0 5\tof a", "ladder x 1/2 0 5 of a\t",
    "ladder x 1/2 0 5 of a\r", "ladderx 1/2 0 5 of a", "ladder x 1/2 0 5 ofa",
    "ladder x 1/2 10 5 of a", "ladder x 1/2 0 10 of a", "ladder x 1/2 00 5 of a", "ladder x 1/2 0 05 of a",
    "ladder x 1/2 -1 5 of a", "ladder x 1/2 +1 5 of a", "ladder x 1/2 a 5 of a", "ladder x 1/2 0 1_0 of a",
    "ladder x 1/2 0 \u0665 of a", "ladder x 1/2 0 \u00b2 of a",
    "ladder x 0/1 0 5 of a", "ladder x 0/2 0 5 of a", "ladder x 1/1 0 5 of a", "ladder x 2/1 0 5 of a",
    "ladder x 2/4 0 5 of a", "ladder x 3/9 0 5 of a", "ladder x 1/10 0 5 of a", "ladder x 9/10 0 5 of a",
    "ladder x 1/0 0 5 of a", "ladder x 01/2 0 5 of a", "ladder x 1/02 0 5 of a", "ladder x 1 / 2 0 5 of a",
    "ladder x 1/2/3 0 5 of a", "ladder x /2 0 5 of a", "ladder x 1/ 0 5 of a", "ladder x / 0 5 of a",
    "ladder x 12 0 5 of a", "ladder x -1/2 0 5 of a", "ladder x 1/2 0 5 of c", "ladder x 1/2 0 5 of x",
    "ladder x 1/2 0 5 of b a", "ladder x 1/2 0 5 of a b a", "ladder x 1/2 0 5 of a a a a",
    "ladder x 1/2 0 5 of a b b b b", "ladder x 1/2 0 5 of - a", "ladder x 1/2 0 5 of a -", "ladder x 1/2 0 5 of - -",
    "ladder x 1/2 0 5 of --", "ladder x 1/2 0 5 of 0", "ladder x 1/2 0 5 of a | b", "ladder x 1/2 0 5 of a |",
    "ladder x 1/2 0 5 of aa", "ladder x 1/2 0 5 of A", "ladder x 1/2 0 5 of of a", "ladder x 1/2 0 5 of a of b",
    # flat
    "flat x 5 0 5 of a", "flat x 1/2 0 5 of a", "flat x 0 5 of a", "flat x -1 0 5 of a", "flat x 00 0 5 of a",
    "flat x 1 0 5 of a | b", "flat x 1 0 5 of", "flat x 1 0 10 of a", "flat x 1 10 5 of a",
    # choose
    "choose x 1/2 0 5 of", "choose x 1/2 0 5 of |", "choose x 1/2 0 5 of a |", "choose x 1/2 0 5 of | a",
    "choose x 1/2 0 5 of a | | b", "choose x 1/2 0 5 of a || b", "choose x 1/2 0 5 of a|b",
    "choose x 1/2 0 5 of a | a | a | a | a", "choose x 1/2 0 5 of a | c", "choose x 1/2 0 5 of a  | b",
    "choose x 1/2 0 5 of a |  b", "choose x 1 0 5 of a", "choose x 1/2 1/2 0 5 of a", "choose x 1/2 0 5 of b a | a",
    "choose x 1/2 0 5 of a | a a a a",
    # first
    "first x 1/2 1/3 0 5 of a", "first x 10 1/2 1/3 0 5 of a", "first x 3 1/2 0 5 of a",
    "first x 3 1/2 2/4 0 5 of a", "first x 3 2/4 1/2 0 5 of a", "first x 3 1/2 1/3 0 of a",
    "first x 3 1/2 1/3 0 5 of", "first x 3 1/2 1/3 0 5 of a | a | a | a | a", "first 3 1/2 1/3 0 5 of a",
    "first x 1/2 3 1/3 0 5 of a", "first x 3 1/2 1/3 0 5 of a | -  ",
    # let, tell
    "let", "let x", "let x ", "let 1 1", "let let 1", "let x 1 2", "let x  1", "let x = 1", "let (+ 1 2) 3",
    "let abcdefghi 1", "letx 1", "let x 1000", "let x (+ 1 2", "let x tell",
    "tell", "tell ", "tell 1 ", "tell  1", " tell 1", "tell 1 2", "tell x y", "tell 1000", "tell 01", "tell 00",
    "tell -1", "tell -", "tell 1/2", "tell A", "tell of", "tell abcdefghi", "tell ()", "tell (1)", "tell (x)",
    "tell (+)", "tell (+ 1)", "tell (+ 1 2 3)", "tell (+ 1 2", "tell (+ 1 2))", "tell + 1 2", "tell ( + 1 2)",
    "tell (+ 1 2 )", "tell (+  1 2)", "tell (+ 1  2)", "tell (+1 2)", "tell (/ 1 2)", "tell (> 1 2)",
    "tell (<= 1 2)", "tell (++ 1 2)", "tell (+ 1 2) 3", "tell (+ (+ 1 2) 3", "tell (+ 1 (+ 2) 3)",
    "tell ((+ 1 2))", "tell (+ 1 2)(+ 1 2)", "tell (+ 1 2)x", "tell )", "tell (", "tell 1)", "tell [+ 1 2]",
    "tell (+ (1 2)", "tell 1 2 3)", "tell x (+ 1", "tell x (+ 1 2", "tell (+ 1 2) (+ 1 2)", "tell x (+", "tell " + "9" * 3000, "tell 0000", "tell +1",
    # when, times
    "when", "when ", "when 1 ", "when 1 2", "when of", "when (+ 1", "when 1000", "whenx 1",
    "times", "times ", "times 0", "times 4", "times 01", "times 10", "times x", "times 2 2", "times  2", "times 2 ",
    "times -1", "else ", " else", "else 1", "end ", " end", "end end",
]

NAME = r"(?!(?:kinds|ladder|flat|choose|first|let|tell|when|else|times|end|of)\b)[a-z]{1,8}"
STEEP = "(?:1/[2-9]|2/[3579]|3/[4578]|4/[579]|5/[6-9]|6/7|7/[89]|8/9)"
ATOM = f"(?:{NAME}|0|[1-9][0-9]{{0,2}})"


def term_stands(text):
    """Bracket by bracket from within, each put down as a 0."""
    if re.search("@", text):
        return False
    text = re.sub(rf"(?<![^ (]){ATOM}(?![^ )])", "@", text)
    while "(" in text:
        shorter = re.sub(r"\([-+*<=] @ @\)", "@", text)
        if shorter == text:
            return False
        text = shorter
    return text == "@"


def sum_pattern(kinds):
    """Each kind at most thrice, in order, by a blank ahead of each word."""
    if not kinds:
        return "(?: -)"
    return "(?: -|(?= [a-z])" + "".join(f"(?: {kind}){{0,3}}" for kind in kinds) + ")"


def throw_stands(line, kinds):
    one = sum_pattern(kinds)
    several = rf"{one}(?: \|{one}){{0,3}}"
    return any(re.fullmatch(pattern, line) for pattern in (
        rf"ladder {NAME} {STEEP} [0-9] [0-9] of{one}", rf"flat {NAME} [0-4] [0-9] [0-9] of{one}",
        rf"choose {NAME} {STEEP} [0-9] [0-9] of{several}",
        rf"first {NAME} [0-9] {STEEP} {STEEP} [0-9] [0-9] of{several}"))


def refused_at(text):
    """The row that the document refuses, or None: told by patterns, not by reading."""
    lines = text.split("\n")
    kinds = lines[0].split(" ")[1:]
    if not re.fullmatch(rf"kinds(?: {NAME})*", lines[0]) or len(set(kinds)) < len(kinds):
        return 0
    waiting = []
    for number, line in enumerate(lines[1:], start=1):
        word, _, rest = line.partition(" ")
        if word == "when" and term_stands(rest):
            waiting.append("when")
        elif re.fullmatch("times [123]", line):
            waiting.append("times")
        elif line == "else" and waiting[-1:] == ["when"]:
            waiting[-1] = "else"
        elif line == "end" and waiting and waiting[-1] != "when":
            waiting.pop()
        elif word == "tell" and term_stands(rest):
            pass
        elif word == "let" and re.fullmatch(NAME, rest.partition(" ")[0]) and term_stands(rest.partition(" ")[2]):
            pass
        elif not throw_stands(line, kinds):
            return number
    return len(lines) if waiting else None


def refusal(text):
    try:
        read(text)
    except NoText as error:
        return error.row
    return None


class ReadTerm(unittest.TestCase):
    def test_leaves(self):
        for n in range(1000):
            self.assertEqual(read_term(str(n)), ("num", n))
        for name in ("a", "z", "abcdefgh", "kind", "ends"):
            self.assertEqual(read_term(name), ("name", name))

    def test_signs(self):
        for sign in "+-*<=":
            self.assertEqual(read_term(f"({sign} x 1)"), ("op", sign, X, ONE))

    def test_each_letter(self):
        for sign in string.ascii_lowercase:
            self.assertEqual(read_term(f"(+ {sign} {sign})"), ("op", "+", ("name", sign), ("name", sign)))

    def test_other_signs_among_figures(self):
        for sign in (string.printable + "\u00b2\u0661").translate(str.maketrans("", "", string.digits)):
            for text in (sign + "1", "1" + sign, "1" + sign + "1"):
                with self.assertRaises(NoText, msg=repr(text)):
                    read_term(text)

    def test_within_one_another(self):
        self.assertEqual(read_term("(+ (- 1 x) (* x (< 1 1)))"),
                         ("op", "+", ("op", "-", ONE, X), ("op", "*", X, ("op", "<", ONE, ONE))))

    def test_deep(self):
        for depth in (10, 12, 300):
            for text in ("(+ 1 " * depth + "x" + ")" * depth, "(+ " * depth + "x" + " 1)" * depth):
                term = read_term(text)
                self.assertEqual(show_term(term), text)

    def test_made_ones(self):
        for seed in range(500):
            term = make_term(random.Random(seed), 5)
            self.assertEqual(read_term(show_term(term)), term)

    def test_refused(self):
        bad = [row[5:] for row in BAD_ROWS if row.startswith("tell ")]
        self.assertGreater(len(bad), 40)
        for text in bad + ["", "1\n", "\n1", "x\n", "(+ 1\n2)", "(+\n1 2)", "1\n2", "x y", "tell 1", "(+ 1 2)\n",
                           "\u0661", "(" * 300, ")" * 300, "(+ " * 300]:
            with self.assertRaises(NoText, msg=repr(text)) as caught:
                read_term(text)
            self.assertEqual(caught.exception.row, 0)

    def test_asked_again(self):
        self.assertEqual(read_term("(+ x 1)"), read_term("(+ x 1)"))


class Read(unittest.TestCase):
    def test_each_sort_of_row(self):
        for text, row in ROWS:
            self.assertEqual(read("kinds a b\n" + text), (("a", "b"), (row,)))

    def test_each_steepness(self):
        for q in range(0, 12):
            for p in range(0, 12):
                text = f"kinds a b\nladder x {p}/{q} 0 5 of a"
                self.assertEqual(refusal(text), None if re.fullmatch(STEEP, f"{p}/{q}") else 1, text)

    def test_all_rows_one_behind_the_other(self):
        text = "\n".join(["kinds a b"] + [row[0] for row in ROWS])
        self.assertEqual(read(text), (("a", "b"), tuple(row[1] for row in ROWS)))

    def test_within_one_another(self):
        text = "kinds a b\nwhen x\ntell 1\ntimes 3\nlet x 1\nend\nelse\nwhen 1\nelse\ntell x\nend\nend\ntell 1"
        self.assertEqual(read(text), (("a", "b"), (
            ("when", X, (("tell", ONE), ("times", 3, (("let", "x", ONE),))),
             (("when", ONE, (), (("tell", X),)),)),
            ("tell", ONE))))

    def test_rows_without_rows(self):
        self.assertEqual(read("kinds a\nwhen 1\nelse\nend\ntimes 1\nend"),
                         (("a",), (("when", ONE, (), ()), ("times", 1, ()))))

    def test_kinds_of_any_number(self):
        self.assertEqual(read("kinds"), ((), ()))
        self.assertEqual(read("kinds\nladder x 1/2 0 5 of -"), ((), (("ladder", "x", (), (1, 2), 0, 5),)))
        names = "a b c d e f g h kind".split(" ")
        self.assertEqual(read("kinds " + " ".join(names) + "\nflat a 1 0 5 of a h h kind"),
                         (tuple(names), (("flat", "a", (1, 0, 0, 0, 0, 0, 0, 2, 1), 1, 0, 5),)))

    def test_kinds_stay_in_their_order(self):
        self.assertEqual(read("kinds b a\nladder b 1/2 0 5 of b a"),
                         (("b", "a"), (("ladder", "b", (1, 1), (1, 2), 0, 5),)))
        self.assertEqual(refusal("kinds b a\nladder b 1/2 0 5 of a b"), 1)

    def test_deep(self):
        for made in (deep_whens, deep_times, deep_first_rows):
            for depth in (1, 5, 300, 3000):
                text, program = made(depth)
                self.assertTrue(same(read(text), program), made)

    def test_made_ones(self):
        for seed in range(600):
            program = make_program(seed)
            text = show(program)
            self.assertEqual(read(text), program)
            self.assertEqual(refused_at(text), None, text)

    def test_asked_again(self):
        text = show(make_program(5))
        self.assertEqual(read(text), read(text))
        self.assertEqual((refusal("kinds a\n"), refusal("kinds a\n")), (1, 1))


class Refused(unittest.TestCase):
    def test_rows_that_can_stand_nowhere(self):
        for row in BAD_ROWS:
            self.assertEqual(refusal("kinds a b\n" + row), 1, repr(row))
            self.assertEqual(refusal("kinds a b\ntell 1\n" + row + "\nmore"), 2, repr(row))
            if row not in ("else", "end"):
                self.assertEqual(refusal("kinds a b\nwhen 1\n" + row + "\nelse\nend"), 2, repr(row))
                self.assertEqual(refusal("kinds a b\nwhen 1\nelse\n" + row + "\nend"), 3, repr(row))
                self.assertEqual(refusal("kinds a b\ntimes 2\n" + row + "\nend"), 2, repr(row))

    def test_without_signs(self):
        self.assertEqual(refusal(""), 0)

    def test_line_feeds(self):
        self.assertEqual(refusal("\n"), 0)
        self.assertEqual(refusal("\nkinds a"), 0)
        self.assertEqual(refusal("kinds a\n"), 1)
        self.assertEqual(refusal("kinds a\ntell 1\n"), 2)
        self.assertEqual(refusal("kinds a\n\ntell 1"), 1)
        self.assertEqual(refusal("kinds a\nwhen 1\n\nelse\nend"), 2)

    def test_kinds_row(self):
        for line in ("kind a", "Kinds a", "kinds ", "kinds  a", "kinds a ", " kinds a", "kinds a  b", "kinds a a",
                     "kinds a b a", "kinds of", "kinds kinds", "kinds a when", "kinds A", "kinds abcdefghi",
                     "kinds 1", "kinds a1", "kinds -", "kinds a | b", "kinds a,b", "kindsa", "a b", "tell 1"):
            self.assertEqual(refusal(line), 0, line)
            self.assertEqual(refusal(line + "\ntell 1"), 0, line)
            self.assertEqual(refusal(line + "\nwhat"), 0, line)

    def test_rows_out_of_place(self):
        for rows, wanted in [
                ("else", 1), ("end", 1), ("tell 1/end", 2), ("when 1/end", 2), ("when 1/tell 1/end/else", 3),
                ("when 1/else/else/end", 3), ("when 1/else/end/end", 4), ("when 1/else/end/else", 4),
                ("times 2/else", 2), ("times 2/end/end", 3), ("when 1/times 2/else/end", 3),
                ("when 1/times 2/end/end", 4), ("when 1/else/times 2/else", 4),
                ("when 1/else/when 1/end", 4), ("times 2/when 1/else/end/else", 5)]:
            self.assertEqual(refusal("kinds a\n" + rows.replace("/", "\n")), wanted, rows)

    def test_ended_too_early(self):
        for rows, wanted in [
                ("when 1", 2), ("when 1/tell 1", 3), ("when 1/else", 3), ("when 1/else/tell 1", 4), ("times 2", 2),
                ("times 2/tell 1", 3), ("when 1/times 2/end/else", 5), ("times 1/times 1/end", 4),
                ("when 1/else/when 1/else/end", 6)]:
            self.assertEqual(refusal("kinds a\n" + rows.replace("/", "\n")), wanted, rows)

    def test_an_end_too_few_or_too_many_deep(self):
        for made in (deep_whens, deep_times, deep_first_rows):
            text, _ = made(300)
            rows = text.count("\n") + 1
            self.assertEqual(refusal(text + "\nend"), rows)
            self.assertEqual(refusal(text.rpartition("\n")[0]), rows - 1)

    def test_the_first_of_several(self):
        self.assertEqual(refusal("kinds a\ntell 1\ntell\nend\nwhen 1"), 2)
        self.assertEqual(refusal("kinds a a\ntell"), 0)
        self.assertEqual(refusal("kinds a\nwhen 1\ntell 1000"), 2)

    def test_one_sign_put_in_taken_out_or_exchanged(self):
        text = ("kinds a b\nwhen (+ x 1)\nladder x 1/2 0 5 of a a b\nelse\ntimes 2\nchoose x 2/3 0 9 of a | -\nend\n"
                "end\nfirst y 3 1/2 1/3 0 5 of b | a b\nflat x 4 0 9 of -\nlet z (* x (= y 10))\ntell z")
        told = []
        for k in range(len(text) + 1):
            for sign in ("", *" \n019ab(|-/)+x"):
                for cut in (0, 1):
                    changed = text[:k] + sign + text[k + cut:]
                    told.append(refusal(changed))
                    self.assertEqual(told[-1], refused_at(changed), repr(changed))
                    if told[-1] is None:
                        self.assertEqual(show(read(changed)), changed)
        self.assertGreater(told.count(None), 50)
        self.assertEqual(set(range(13)) - set(told), set())


if __name__ == "__main__":
    unittest.main()
