"""The desk (points 8, 9, 12 and 37): each of its rows with good and bad words, against what the functions tell."""

import random
import unittest

import programs
from pairedthrows.desk import Desk
from pairedthrows.errors import NoProgram, NoRow, NoText, ThrowError, TooMany
from pairedthrows.holds import holds
from pairedthrows.least import least_factor_of, least_rest_of
from pairedthrows.looker import look
from pairedthrows.papers import paper_of
from pairedthrows.prices import price
from pairedthrows.reader import read
from pairedthrows.runs import told_table
from pairedthrows.trimmed import trimmed
from pairedthrows.writer import show

ROWS = "kinds a b ; ladder x 1/2 0 3 of a b b ; flat y 1 0 2 of a ; tell x ; tell (* 2 x)"
PROGRAM = read(ROWS.replace(" ; ", "\n"))
GOOD = ("shares 0 1", "price a", "least b", "rest a 3/2", "holds b 4/1 0/1", "holds b 1/1 0/1", "text", "trim")


def fraction(pair):
    return f"{pair[0]}/{pair[1]}"


def counts(crowd):
    return ",".join(map(str, crowd))


def shares_text(program, crowd):
    return " ".join(f"{counts(answer)}:{fraction(share)}" for answer, share in told_table(program, crowd))


def holds_text(told):
    if told[0] == "paper":
        return f"paper {len(told[1])}"
    if told[0] == "breaks":
        return f"breaks {counts(told[1])} {counts(told[2])}"
    return f"open {fraction(told[1])} {fraction(told[2])}"


class OneDesk(unittest.TestCase):
    def setUp(self):
        self.desk = Desk()
        self.say("keep " + ROWS, "kept")

    def say(self, row, told):
        self.assertEqual(self.desk.say(row), told)

    def refused(self, said, error, **fields):
        for _ in range(2):
            with self.assertRaises(ThrowError) as caught:
                self.desk.say(said)
            self.assertIs(type(caught.exception), error, said)
            for field, value in fields.items():
                self.assertEqual(getattr(caught.exception, field), value, said)

    def no_row(self, *rows):
        """None of them is a row, and what is kept stays."""
        for row in rows:
            self.refused(row, NoRow)
        self.say("text", show(PROGRAM).replace("\n", " ; "))


class Keep(OneDesk):
    def test_kept(self):
        self.say("keep kinds c ; tell 4", "kept")
        self.say("text", "kinds c ; tell 4")
        self.say("shares 7", "4:1/1")

    def test_without_signs(self):
        self.refused("keep ", NoText, row=0)
        self.no_row("keep", "kee", "", " ", "keep\t", "Keep kinds a ; tell 1", " keep kinds a ; tell 1",
                    "keepkinds a ; tell 1", "keep;kinds a ; tell 1")

    def test_texts_that_are_none(self):
        for text, row in (("kinds a ; tell", 1), ("kinds a ; tell 1 ; else", 2), ("kinds a a", 0),
                          ("kinds a ; when 1 ; tell 1", 3), ("kinds a ; ladder x 1/2 0 3 of b ; tell x", 1),
                          ("kinds a ; tell 1 ; ", 2), ("kinds a ;  ; tell 1", 1), ("kinds a ; ; tell 1", 1),
                          ("kinds a ; tell 01", 1), ("tell 1", 0), (" kinds a ; tell 1", 0), ("kinds  a ; tell 1", 0),
                          ("kinds a  ; tell 1", 0), ("kinds a ;  tell 1", 1), ("kinds a ; tell 1 ", 1),
                          ("kinds a; tell 1", 0), ("kinds a ;tell 1", 0), ("kinds a ;", 0), ("; kinds a ; tell 1", 0),
                          (";", 0), (" ; ", 0), (" ; kinds a ; tell 1", 0), ("kinds a ; tell 1 ; tell", 2),
                          ("kinds a ; tell 1 ;", 1), ("kinds a , tell 1", 0), ("keep kinds a ; tell 1", 0)):
            self.refused("keep " + text, NoText, row=row)
            self.say("text", ROWS)

    def test_programs_that_are_not_let_by(self):
        for text, word, row in (("kinds", "kinds", -1), ("kinds a b c d ; tell 1", "kinds", -1),
                                ("kinds a ; let x 1", "silent", -1), ("kinds a", "silent", -1),
                                ("kinds a ; ladder x 1/2 5 4 of a ; tell x", "range", 0),
                                ("kinds a ; tell x", "unknown", 0),
                                ("kinds a ; let x 1 ; when x ; tell 1 ; else ; end", "tells", 1)):
            self.refused("keep " + text, NoProgram, word=word, row=row)
            self.say("text", ROWS)

    def test_no_text_comes_ahead_of_no_program(self):
        self.refused("keep kinds a b c d ; tell x ; tell", NoText, row=2)

    def test_a_line_feed_at_any_place(self):
        good = "keep kinds a ; tell 1"
        rows = [good[:at] + "\n" + good[at:] for at in range(len(good) + 1)]
        self.no_row(*rows, "keep kinds a\ntell 1", "keep\n", "keep \n")
        self.say(good, "kept")

    def test_many(self):
        for seed in range(150):
            program = programs.right_program(seed)
            row = show(program).replace("\n", " ; ")
            self.say("keep " + row, "kept")
            self.say("text", row)
            self.say("keep " + self.desk.say("text"), "kept")
            self.say("text", row)
        for seed in range(200):
            program = programs.make_program(seed)
            row = "keep " + show(program).replace("\n", " ; ")
            try:
                look(program)
            except NoProgram as fault:
                before = self.desk.say("text")
                self.refused(row, NoProgram, word=fault.word, row=fault.row)
                self.say("text", before)
            else:
                self.say(row, "kept")


class NothingKept(unittest.TestCase):
    def test_all_but_keep_are_refused(self):
        desk = Desk()
        for row in GOOD + ("", "keep", "none"):
            with self.assertRaises(NoRow):
                desk.say(row)
        for row in ("keep kinds", "keep ", "keep kinds a ; tell x"):
            with self.assertRaises((NoText, NoProgram)):
                desk.say(row)
            for other in GOOD:
                with self.assertRaises(NoRow):
                    desk.say(other)
        self.assertEqual(desk.say("keep kinds a ; tell 1"), "kept")
        self.assertEqual(desk.say("price a"), "1/1 0/1")

    def test_two_desks_beside_one_another(self):
        one, other = Desk(), Desk()
        one.say("keep kinds a ; tell 1")
        with self.assertRaises(NoRow):
            other.say("text")
        other.say("keep kinds b ; let x 1 ; tell 2")
        self.assertEqual([one.say("text"), other.say("text")], ["kinds a ; tell 1", "kinds b ; let x 1 ; tell 2"])
        other.say("trim")
        self.assertEqual([one.say("text"), other.say("text")], ["kinds a ; tell 1", "kinds b ; tell 2"])
        with self.assertRaises(NoRow):
            one.say("price b")


class Rows(OneDesk):
    def test_by_hand(self):
        self.say("keep kinds a b ; ladder x 1/2 0 1 of a ; flat y 1 0 3 of b b ; tell x ; tell y", "kept")
        for _ in range(2):
            self.say("shares 0 0", "0,0:4/9 0,1:2/9 1,0:2/9 1,1:1/9")
            self.say("price a", "2/1 0/1")
            self.say("price b", "1/1 2/3")
            self.say("least a", "2/1")
            self.say("least b", "none")
            self.say("rest a 1/1", "1/3")
            self.say("rest a 2/1", "0/1")
            self.say("rest a 6/4", "1/6")
            self.say("rest b 9/1", "2/3")
            self.say("holds a 2/1 0/1", "paper 5")
            self.say("holds a 4/2 0/9", "paper 5")
            self.say("holds a 1/1 1/3", "open 2/1 0/1")
            self.say("text", "kinds a b ; ladder x 1/2 0 1 of a ; flat y 1 0 3 of b b ; tell x ; tell y")

    def test_shares(self):
        for crowd in ((0, 0), (1, 0), (0, 1), (3, 7), (10 ** 6, 0), (10 ** 6, 10 ** 6), (999999, 10)):
            self.say(f"shares {crowd[0]} {crowd[1]}", shares_text(PROGRAM, crowd))

    def test_bad_shares(self):
        self.no_row("shares", "shares ", "shares 1", "shares 1 ", "shares 1 2 3", "shares  1 2", "shares 1  2",
                    "shares 1 2 ", " shares 1 2", "shares 01 2", "shares 1 00", "shares -1 2", "shares +1 2",
                    "shares 1,2",
                    "shares a b", "shares 1 b", "shares 1 1000001", "shares 9999999 1", "shares 10000000 1",
                    "shares 1 1" + "0" * 5000, "shares 1 0x1", "shares 1 1_0", "shares 1 1.0", "shares 1/1 2",
                    "shares 1\n2", "shares 1 2\n", "\nshares 1 2", "share 1 2", "Shares 1 2", "shares 0 -0",
                    "shares 1 \t2",
                    "shares 1 \u00b2", "shares 1 \u0661")

    def test_price(self):
        self.say("price a", "2/1 0/1")
        self.say("price b", "4/1 0/1")
        self.say("keep kinds b ; ladder x 2/3 0 3 of b ; tell x", "kept")
        self.say("price b", "3/2 0/1")
        self.refused("price a", NoRow)

    def test_bad_prices(self):
        self.no_row("price", "price ", "price c", "price x", "price A", "price ab", "price a b", "price a ", "price  a",
                    " price a", "price 0", "price 1", "price a 1/1", "price\na", "price a\n", "prices a", "price -")

    def test_least(self):
        for kind, name in enumerate("ab"):
            self.say(f"least {name}", fraction(least_factor_of(PROGRAM, kind)[0]))
        self.say("keep kinds a ; flat x 0 0 1 of a ; tell x", "kept")
        self.say("least a", "none")

    def test_bad_leasts(self):
        self.no_row("least", "least ", "least c", "least x", "least a b", "least a ", "least  a", " least a", "least 0",
                    "least a 1/1", "least\na", "least a\n", "leasts a")

    def test_rest(self):
        for words, factor in (("1/1", (1, 1)), ("7/7", (1, 1)), ("999999999/999999999", (1, 1)), ("6/4", (3, 2)),
                              ("999999999/1", (999999999, 1)), ("999999999/999999998", (999999999, 999999998))):
            for kind, name in enumerate("ab"):
                self.say(f"rest {name} {words}", fraction(least_rest_of(PROGRAM, kind, factor)[0]))

    def test_bad_fractions(self):
        for bad in ("1", "2", "", "1/", "/1", "/", "1//1", "1/1/1", "01/1", "1/01", "00/1", "1/00", "1/0", "0/0",
                    "+1/1", "-1/1", "1/-1", "1/+1", "1000000000/1", "1000000000/1000000000", "1/1000000000", "a/b",
                    "1 /1", "1/ 1",
                    "1.0/1", "1/1.", "1_0/1", "0x1/1", "1/" + "1" * 5000, "9" * 5000 + "/1", "\u00b2/1", "1/1,", "1:1",
                    "1\\1", "none", "1/1\n", "\n1/1"):
            self.no_row(f"rest a {bad}", f"holds a {bad} 0/1", f"holds a 2/1 {bad}")

    def test_factors_below_1(self):
        for below in ("0/1", "0/9", "1/2", "2/4", "8/9", "999999998/999999999", "1/999999999"):
            self.no_row(f"rest a {below}", f"holds a {below} 1/1", f"holds a {below} 0/1")
            self.assertEqual(self.desk.say(f"holds a 2/1 {below}"), "paper 5")

    def test_bad_rests(self):
        self.no_row("rest", "rest ", "rest a", "rest a ", "rest c 1/1", "rest x 1/1", "rest a 1/1 1/1", "rest a 1/1 ",
                    "rest  a 1/1", "rest a  1/1", " rest a 1/1", "rest 1/1 a", "rest 1/1", "rest a b", "rest\na 1/1",
                    "rest a\n1/1", "rests a 1/1")

    def test_holds(self):
        for kind, name in enumerate("ab"):
            for factor in ((1, 1), (3, 2), (2, 1), (4, 1), (999999999, 1)):
                for rest in ((0, 1), (1, 9), (1, 3), (2, 3), (1, 1), (7, 2)):
                    wanted = holds_text(holds(PROGRAM, kind, factor, rest))
                    self.say(f"holds {name} {fraction(factor)} {fraction(rest)}", wanted)
                    if factor[0] < 10:
                        self.say(f"holds {name} {factor[0] * 6}/{factor[1] * 6} {rest[0] * 9}/{rest[1] * 9}", wanted)
        self.say("holds b 4/1 0/1", f"paper {len(paper_of(PROGRAM, 1))}")

    def test_bad_holds(self):
        self.no_row("holds", "holds ", "holds a", "holds a 1/1", "holds a 1/1 ", "holds a 1/1 0/1 ",
                    "holds a 1/1 0/1 1/1",
                    "holds c 1/1 0/1", "holds x 1/1 0/1", "holds  a 1/1 0/1", "holds a  1/1 0/1", "holds a 1/1  0/1",
                    " holds a 1/1 0/1", "holds 1/1 0/1 a", "holds a\n1/1 0/1", "holds a 1/1 0/1\n", "hold a 1/1 0/1")

    def test_trim(self):
        self.say("trim", "kept")
        self.say("text", show(trimmed(PROGRAM)).replace("\n", " ; "))
        self.say("text", "kinds a b ; ladder x 1/2 0 3 of a b b ; tell x ; tell (* 2 x)")
        self.say("trim", "kept")
        self.say("text", "kinds a b ; ladder x 1/2 0 3 of a b b ; tell x ; tell (* 2 x)")
        self.say("holds a 2/1 0/1", "paper 4")

    def test_bad_trims_and_texts(self):
        self.no_row("trim ", " trim", "trim a", "trim  ", "trims", "Trim", "trim\n", "\ntrim", "text ", " text",
                    "text a",
                    "texts", "text\n", "\ntext", "text 1", "TEXT", "text ; ", "trim trim")

    def test_rows_that_are_none(self):
        self.no_row("", " ", "  ", "\n", "a", "x", "kept", "none", "kinds a ; tell 1", "tell 1", "paper", "open",
                    "; text", "text ; trim", "say text", "factor a", "-", "0", "1/1")

    def test_kinds_called_like_the_desk_s_own_words(self):
        self.say("keep kinds price keep holds ; ladder rest 1/2 0 3 of price ; ladder shares 1/3 0 1 of keep ; "
                 "ladder trim 1/5 0 1 of holds ; tell (+ rest (+ shares trim))", "kept")
        self.say("price price", "2/1 0/1")
        self.say("price keep", "3/1 0/1")
        self.say("price holds", "5/1 0/1")
        self.say("least holds", fraction(least_factor_of(read(self.desk.say("text").replace(" ; ", "\n")), 2)[0]))
        self.say("rest keep 3/1", "0/1")
        self.say("holds holds 5/1 0/1", "paper 5")
        self.refused("price rest", NoRow)
        self.refused("price text", NoRow)
        self.refused("keep", NoRow)
        self.refused("keep holds", NoText, row=0)
        self.say("keep kinds none text ; ladder x 1/2 0 3 of text ; tell x", "kept")
        self.say("least none", "1/1")
        self.say("price text", "2/1 0/1")


class TooManyAtTheDesk(OneDesk):
    def test_runs(self):
        just = "kinds a ; ladder x 1/2 0 9 of a ; ladder y 1/2 0 9 of a ; ladder z 1/2 0 3 of a ; tell x"
        self.say("keep " + just, "kept")
        self.say("shares 3", shares_text(read(just.replace(" ; ", "\n")), (3,)))
        self.say("least a", "2/1")
        self.say("holds a 1/1 1/1", "open 2/1 0/1")
        self.say("keep " + just.replace("0 3", "0 4"), "kept")
        for row in ("shares 3", "least a", "rest a 1/1", "rest a 9/1", "holds a 1/1 0/1", "holds a 1/1 1/1"):
            self.refused(row, TooMany, most=400)
        self.say("holds a 2/1 0/1", "paper 5")
        self.say("price a", "2/1 0/1")
        self.refused("rest a 1/2", NoRow)
        self.say("trim", "kept")
        self.say("least a", "2/1")

    def test_crowds(self):
        self.say("keep kinds a b c ; ladder x 1/2 0 9 of a ; ladder x 1/2 0 9 of b ; ladder x 1/2 0 4 of c ; tell 1",
                 "kept")
        for row in ("least a", "rest a 1/1"):
            self.refused(row, TooMany, most=400)
        self.refused("shares 1 1 1", TooMany, most=400)
        self.say("holds a 1/1 0/1", "paper 5")

    def test_very_long_prices_are_told_whole(self):
        rows = "first x 9 1/9 1/9 0 9 of a a a ; " * 30
        self.say(f"keep kinds a ; times 3 ; times 3 ; times 3 ; {rows}tell x ; end ; end ; end", "kept")
        factor, rest = self.desk.say("price a").split(" ")
        top, bottom = factor.split("/")
        self.assertEqual(bottom, "1")
        self.assertGreater(len(top), 4300)
        number = 0
        for figure in top:
            number = number * 10 + "0123456789".index(figure)
        self.assertEqual(number, 9 ** (9 * 30 * 27))
        self.assertNotEqual(top[0], "0")

    def test_fractions_with_noughts_within(self):
        # A factor whose figures have noughts at every place of eighteen.
        self.say("keep kinds a ; times 3 ; times 3 ; ladder x 1/2 0 3 of a a a ; times 3 ; ladder y 1/5 0 3 of a ; "
                 "end ; tell (+ x y) ; end ; end", "kept")
        self.say("price a", "1" + "0" * 27 + "/1 0/1")


class Many(unittest.TestCase):
    def test_as_the_functions_tell(self):
        dice = random.Random(37)
        desk = Desk()
        told = {"paper": 0, "breaks": 0, "open": 0, "none": 0, "refused": 0}
        for seed in range(120):
            program = programs.right_program(seed, dice.choice((programs.low_throw, programs.flat_throw)))
            desk.say("keep " + show(program).replace("\n", " ; "))
            kind = dice.randrange(len(program[0]))
            name = program[0][kind]
            crowd = tuple(dice.choice((0, 1, 2, 10 ** 6)) for _ in program[0])
            self.assertEqual(desk.say(f"price {name}"), " ".join(map(fraction, price(program, kind))))
            factor, rest = dice.choice(((1, 1), (3, 2), (2, 1))), dice.choice(((0, 1), (1, 10), (1, 3), (1, 1)))
            try:
                self.assertEqual(desk.say("shares " + " ".join(map(str, crowd))), shares_text(program, crowd))
                least = least_factor_of(program, kind)[0]
                self.assertEqual(desk.say(f"least {name}"), "none" if least is None else fraction(least))
                self.assertEqual(desk.say(f"rest {name} {fraction(factor)}"),
                                 fraction(least_rest_of(program, kind, factor)[0]))
                wanted = holds(program, kind, factor, rest)
                self.assertEqual(desk.say(f"holds {name} {fraction(factor)} {fraction(rest)}"), holds_text(wanted))
                told[wanted[0]] += 1
                told["none"] += least is None
            except TooMany as refusal:
                self.assertEqual(refusal.most, 400)
                told["refused"] += 1
            self.assertEqual(desk.say("trim"), "kept")
            self.assertEqual(desk.say("text"), show(trimmed(program)).replace("\n", " ; "))
        self.assertGreater(min(told.values()), 3, told)


if __name__ == "__main__":
    unittest.main()
