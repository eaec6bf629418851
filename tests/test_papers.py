"""Places and papers (points 28, 29 and 30), against readings of those points of the tests' own."""

import itertools
import random
import unittest
from fractions import Fraction

import programs
from pairedthrows.errors import NoPaper, ThrowError
from pairedthrows.papers import paper_of, paper_shows, part_at
from pairedthrows.prices import price
from pairedthrows.reader import read

ALL_RULES = ("throw", "idle", "plain", "rows", "either", "again")
NO_RULES = ("", "Rows", "row", " rows", "rows ", "ladder", "let", "when", "times", "none", "idle\n")
ONE = (1, 1)
NONE = (0, 1)
MANY = [programs.right_program(seed) for seed in range(300)]

TEXT = """kinds a
ladder x 1/2 0 5 of a
when x
flat y 1 0 5 of a
times 2
let z y
end
else
end
ladder u 1/3 0 5 of a
times 3
tell (+ x 1)
end"""

PAPER = (
    ((0,), "throw", (2, 1), NONE),
    ((1, 0, 0), "idle", ONE, NONE),
    ((1, 0, 1, 0, 0), "idle", ONE, NONE),
    ((1, 0, 1, 0), "rows", ONE, NONE),
    ((1, 0, 1), "again", ONE, NONE),
    ((1, 0), "rows", ONE, NONE),
    ((1, 1), "rows", ONE, NONE),
    ((1,), "either", ONE, NONE),
    ((2,), "idle", ONE, NONE),
    ((3, 0, 0), "plain", ONE, NONE),
    ((3, 0), "rows", ONE, NONE),
    ((3,), "again", ONE, NONE),
    ((), "rows", (2, 1), NONE),
)


def own_look(program, kind, paper):
    """Point 29: a price, or the number of the first line that isn't right."""
    names = programs.needed_names(program)
    parts = {place: (part, inner) for place, part, inner in programs.rows_places((), program[1])}
    shown = {}
    for at, (place, rule, factor, rest) in enumerate(paper):
        if place not in parts or rule not in programs.right_rules(parts[place][0], names):
            return at
        part, inner = parts[place]
        if not all(one in shown for one in inner):
            return at
        least = programs.due(part, rule, kind, [shown[one] for one in inner])
        if Fraction(*factor) < least[0] or Fraction(*rest) < least[1]:
            return at
        shown[place] = Fraction(*factor), Fraction(*rest)
    if not paper or paper[-1][0] != ():
        return len(paper)
    return paper[-1][2:]


class PartAt(unittest.TestCase):
    def test_by_hand(self):
        program = read(TEXT)
        rows = program[1]
        for place, part in (((), rows), ((0,), rows[0]), ((1,), rows[1]), ((1, 0), rows[1][2]), ((1, 1), ()),
                            ((1, 0, 0), rows[1][2][0]), ((1, 0, 1), rows[1][2][1]),
                            ((1, 0, 1, 0), rows[1][2][1][2]), ((1, 0, 1, 0, 0), ("let", "z", ("name", "y"))),
                            ((3, 0, 0), rows[3][2][0])):
            for _ in range(2):
                self.assertEqual(part_at(program, place), part)

    def test_places_that_are_not_there(self):
        program = read(TEXT)
        for place in ((4,), (-1,), (-4,), (0, 0), (0, 0, 0), (1, 2), (1, -1), (1, 0, 2), (1, 1, 0), (1, 0, -1),
                      (1, 0, 1, 1), (1, 0, 1, -1), (1, 0, 1, 0, 1), (1, 0, 1, 0, 0, 0), (2, 0), (3, 1), (3, 0, 1),
                      (3, 0, 0, 0), (3, 0, 0, 1), (10 ** 30,), (-10 ** 30,), (0,) * 1000, (1,) * 1000):
            for _ in range(2):
                self.assertIsNone(part_at(program, place), place)

    def test_all_places(self):
        for program in MANY[:60]:
            parts = {place: part for place, part, _ in programs.rows_places((), program[1])}
            tried = set(itertools.chain.from_iterable(itertools.product(range(-1, 4), repeat=k) for k in range(5)))
            for place in parts:
                tried.update([place, place[:-1], place + (0,), place + (1,), place + (2,), place + (-1,)])
                tried.update(place[:-1] + (number,) for number in (-2, -1, 5, 99))
            for place in tried:
                self.assertEqual(part_at(program, place), parts.get(place), (program, place))


class PaperOf(unittest.TestCase):
    def test_by_hand(self):
        program = read(TEXT)
        for _ in range(2):
            self.assertEqual(paper_of(program, 0), PAPER)

    def test_a_program_of_a_single_row(self):
        self.assertEqual(paper_of(read("kinds a\ntell 1"), 0), (((0,), "plain", ONE, NONE), ((), "rows", ONE, NONE)))

    def test_whens_and_times_without_rows(self):
        program = read("kinds a\nwhen 1\nelse\nend\ntimes 2\nend\ntell 1")
        self.assertEqual(paper_of(program, 0), (
            ((0, 0), "rows", ONE, NONE), ((0, 1), "rows", ONE, NONE), ((0,), "either", ONE, NONE),
            ((1, 0), "rows", ONE, NONE), ((1,), "again", ONE, NONE), ((2,), "plain", ONE, NONE),
            ((), "rows", ONE, NONE)))

    def test_many(self):
        rules = set()
        for program in MANY:
            for kind in range(len(program[0])):
                told = paper_of(program, kind)
                self.assertEqual(told, programs.own_paper(program, kind), program)
                self.assertEqual(paper_of(program, kind), told)
                self.assertEqual(paper_shows(program, kind, told), price(program, kind))
                self.assertEqual(told[-1], ((), "rows") + price(program, kind))
                rules |= {line[1] for line in told}
        self.assertEqual(rules, set(ALL_RULES))


def little_less(fraction):
    return programs.pair(Fraction(*fraction) - Fraction(1, 10 ** 40))


def little_more(fraction):
    return programs.pair(Fraction(*fraction) + Fraction(1, 10 ** 40))


def changed(paper, at, line):
    return paper[:at] + (line,) + paper[at + 1:]


class PaperShows(unittest.TestCase):
    def setUp(self):
        self.program = read(TEXT)

    def shows(self, paper, told, program=None, kind=0):
        program = program or self.program
        self.assertEqual(own_look(program, kind, paper), told)
        for _ in range(2):
            self.assertEqual(paper_shows(program, kind, paper), told)

    def refused(self, paper, at, program=None, kind=0):
        program = program or self.program
        self.assertEqual(own_look(program, kind, paper), at)
        for _ in range(2):
            with self.assertRaises(ThrowError) as caught:
                paper_shows(program, kind, paper)
            self.assertIs(type(caught.exception), NoPaper)
            self.assertEqual(caught.exception.at, at)

    def test_just_what_is_due(self):
        self.shows(PAPER, ((2, 1), NONE))

    def test_without_lines(self):
        self.refused((), 0)

    def test_more_than_is_due(self):
        more = changed(PAPER, 12, ((), "rows", (5, 2), (1, 7)))
        self.shows(more, ((5, 2), (1, 7)))
        self.shows(changed(PAPER, 12, ((), "rows", (10 ** 5000, 1), (10 ** 5000 + 1, 2))),
                   ((10 ** 5000, 1), (10 ** 5000 + 1, 2)))

    def test_more_at_a_line_is_due_from_then_on(self):
        more = changed(PAPER, 0, ((0,), "throw", (3, 1), (1, 3)))
        self.refused(more, 12)
        self.refused(changed(more, 12, ((), "rows", (3, 1), (1, 4))), 12)
        self.refused(changed(more, 12, ((), "rows", (5, 2), (1, 3))), 12)
        self.shows(changed(more, 12, ((), "rows", (3, 1), (1, 3))), ((3, 1), (1, 3)))
        again = changed(PAPER, 10, ((3, 0), "rows", (11, 10), (1, 4)))
        self.refused(again, 11)
        again = changed(again, 11, ((3,), "again", (1331, 1000), (3, 4)))
        self.refused(again, 12)
        self.shows(changed(again, 12, ((), "rows", (1331, 500), (3, 4))), ((1331, 500), (3, 4)))
        either = changed(changed(PAPER, 5, ((1, 0), "rows", (3, 2), NONE)), 6, ((1, 1), "rows", ONE, (1, 5)))
        self.refused(either, 7)
        self.refused(changed(either, 7, ((1,), "either", ONE, (1, 5))), 7)
        self.refused(changed(either, 7, ((1,), "either", (3, 2), NONE)), 7)
        either = changed(either, 7, ((1,), "either", (3, 2), (1, 5)))
        self.shows(changed(either, 12, ((), "rows", (3, 1), (1, 5))), ((3, 1), (1, 5)))

    def test_a_little_less_at_any_line(self):
        text = TEXT.replace("tell (+ x 1)", "tell (+ (+ x u) z)").replace("ladder x 1/2", "let z 0\nflat w 1 0 5 of a\n"
                                                                        "tell w\nladder x 1/2")
        program = read(text)
        paper = paper_of(program, 0)
        self.assertGreater(Fraction(*paper[-1][3]), 0)
        for at, (place, rule, factor, rest) in enumerate(paper):
            self.refused(changed(paper, at, (place, rule, little_less(factor), rest)), at, program)
            self.refused(changed(paper, at, (place, rule, NONE, rest)), at, program)
            if rest != NONE:
                self.refused(changed(paper, at, (place, rule, factor, little_less(rest))), at, program)
                self.refused(changed(paper, at, (place, rule, little_more(factor), NONE)), at, program)

    def test_a_line_left_out(self):
        for at, needed_by in ((0, 11), (1, 4), (2, 2), (3, 3), (4, 4), (5, 6), (6, 6), (7, 11), (8, 11), (9, 9),
                              (10, 10), (11, 11)):
            self.refused(PAPER[:at] + PAPER[at + 1:], needed_by)
        self.refused(PAPER[:12], 12)
        self.refused(PAPER[:1], 1)

    def test_a_line_twice(self):
        for at in range(len(PAPER)):
            self.shows(PAPER[:at] + PAPER[at:at + 1] + PAPER[at:], ((2, 1), NONE))
        self.shows(PAPER + PAPER, ((2, 1), NONE))
        self.refused(PAPER + PAPER[:1], 14)

    def test_lines_exchanged(self):
        for at in range(len(PAPER) - 1):
            paper = PAPER[:at] + (PAPER[at + 1], PAPER[at]) + PAPER[at + 2:]
            told = own_look(self.program, 0, paper)
            (self.refused if isinstance(told, int) else self.shows)(paper, told)
        self.refused(tuple(reversed(PAPER)), 0)

    def test_the_last_line_ahead_counts(self):
        great = ((0,), "throw", (9, 1), NONE)
        self.refused(PAPER[:1] + (great,) + PAPER[1:], 13)
        self.shows((great,) + PAPER, ((2, 1), NONE))
        self.shows(PAPER[:1] + (great,) + PAPER[1:12] + (((), "rows", (9, 1), NONE),), ((9, 1), NONE))
        self.shows(PAPER[:12] + (great, ((), "rows", (9, 1), NONE), PAPER[0], PAPER[12]), ((2, 1), NONE))

    def test_a_line_behind_does_not_count(self):
        great = ((0,), "throw", (9, 1), NONE)
        self.refused(PAPER[1:12] + PAPER[12:] + PAPER[:1], 11)
        self.shows(PAPER + (great, PAPER[0], PAPER[12]), ((2, 1), NONE))
        self.refused(PAPER + (great, PAPER[12]), 14)

    def test_lines_behind_the_last_place(self):
        for line in PAPER[:12]:
            self.refused(PAPER + (line,), 14)

    def test_all_rows_more_than_once(self):
        more = ((), "rows", (7, 2), (1, 9))
        self.shows(PAPER + (more,), more[2:])
        self.shows(PAPER[:12] + (more, PAPER[12]), ((2, 1), NONE))

    def test_rules_of_another_sort(self):
        idle = {(1, 0, 0): "throw", (1, 0, 1, 0, 0): "plain", (2,): "throw"}
        for at, (place, rule, factor, rest) in enumerate(PAPER):
            for other in ALL_RULES:
                if other not in (rule, idle.get(place)):
                    self.refused(changed(PAPER, at, (place, other, (10 ** 9, 1), (10 ** 9, 1))), at)

    def test_rules_that_are_none(self):
        for at, (place, _, factor, rest) in enumerate(PAPER):
            for rule in NO_RULES:
                self.refused(changed(PAPER, at, (place, rule, (10 ** 9, 1), (10 ** 9, 1))), at)

    def test_throw_and_plain_for_an_idle_row(self):
        paper = changed(PAPER, 2, ((1, 0, 1, 0, 0), "plain", ONE, NONE))
        self.shows(paper, ((2, 1), NONE))
        # As a throw it is an idle one no longer, and its own price is due.
        self.refused(changed(paper, 8, ((2,), "throw", ONE, NONE)), 8)
        self.refused(changed(paper, 8, ((2,), "throw", (3, 1), NONE)), 12)
        paper = changed(paper, 8, ((2,), "throw", (3, 1), NONE))
        self.shows(changed(paper, 12, ((), "rows", (6, 1), NONE)), ((6, 1), NONE))
        self.refused(changed(PAPER, 1, ((1, 0, 0), "throw", ONE, (1, 4))), 1)
        self.refused(changed(PAPER, 1, ((1, 0, 0), "throw", ONE, (1, 3))), 5)

    def test_idle_for_a_row_that_is_not(self):
        for at in (0, 4, 5, 7, 9, 11, 12):
            self.refused(changed(PAPER, at, (PAPER[at][0], "idle", (9, 1), (9, 1))), at)

    def test_places_that_are_not_there(self):
        for place in ((4,), (-1,), (0, 0), (1, 2), (3, 1), (1, 1, 0), (3, 0, 0, 0), (1, 0, 1, 0, 0, 0), (10 ** 30,)):
            for rule in ALL_RULES:
                line = (place, rule, (9, 1), (9, 1))
                self.refused((line,) + PAPER, 0)
                self.refused(PAPER[:6] + (line,) + PAPER[6:], 6)
                self.refused(PAPER + (line,), 13)

    def test_the_first_line_that_is_not_right(self):
        wrong = ((0,), "again", ONE, NONE)
        self.refused(PAPER[:3] + (wrong, wrong) + PAPER[3:9], 3)
        self.refused((wrong,), 0)

    def test_each_kind_has_its_own(self):
        program = read("kinds a b\nladder x 1/2 0 5 of a a b\nflat y 1 0 5 of b\ntell (+ x y)")
        one, other = paper_of(program, 0), paper_of(program, 1)
        self.shows(one, ((4, 1), NONE), program, 0)
        self.shows(other, ((2, 1), (1, 3)), program, 1)
        self.refused(one, 1, program, 1)
        self.refused(other, 0, program, 0)

    def test_many_changed_papers(self):
        dice = random.Random(29)
        counts = {"shows": 0, "refused": 0, "at end": 0}
        for program in MANY:
            kind = dice.randrange(len(program[0]))
            for _ in range(12):
                paper = make_paper(dice, program, kind)
                told = own_look(program, kind, paper)
                if isinstance(told, int):
                    self.refused(paper, told, program, kind)
                    counts["at end" if told == len(paper) else "refused"] += 1
                else:
                    self.shows(paper, told, program, kind)
                    counts["shows"] += 1
        self.assertGreater(min(counts.values()), 50, counts)


def make_paper(dice, program, kind):
    """The program's paper, changed a few times: a line more, left out, twice, exchanged, greater, less, renamed."""
    lines = list(paper_of(program, kind))
    for _ in range(dice.randrange(4)):
        at = dice.randrange(len(lines))
        place, rule, factor, rest = lines[at]
        pick = dice.randrange(7)
        if pick == 0 and len(lines) > 1:
            lines.pop(at)
        elif pick == 1:
            lines.insert(dice.randrange(len(lines) + 1), lines[at])
        elif pick == 2:
            lines[at] = (place, rule, little_more(factor), rest)
        elif pick == 3:
            lines[at] = (place, dice.choice(ALL_RULES + ("none",)), (10, 1), (1, 1))
        elif pick == 4:
            lines[at] = (place, rule, dice.choice((factor, little_less(factor), (99, 1))), dice.choice((rest, (3, 1))))
        elif pick == 5:
            lines[at] = (dice.choice((place + (0,), place[:-1], place[:-1] + (1,))), rule, factor, rest)
        else:
            lines[-1] = lines[-1][:2] + ((10 ** 90, 1), (10 ** 9, 1))
    return tuple(lines)


if __name__ == "__main__":
    unittest.main()
