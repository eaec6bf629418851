"""Programs made for the tests, the same ones each time: a seed picks them. And what points of the document make
of them, reckoned by calls within calls and by Python's fractions."""

import itertools
import random
from fractions import Fraction

NAMES = ("x", "y", "z", "a", "b", "abcdefgh")
KINDS = ("a", "b", "c", "x", "kind", "abcdefgh", "ladders")
STEEPNESSES = ((1, 2), (1, 3), (2, 3), (8, 9), (1, 9), (4, 7))
THROWS = ("ladder", "flat", "choose", "first")
PLAIN_RULES = {"let": "plain", "tell": "plain", "when": "either", "times": "again"}


def make_term(dice, depth=3):
    pick = dice.randrange(3 if depth else 2)
    if pick == 0:
        return ("num", dice.choice((0, 1, 9, 10, 99, 100, 999)))
    if pick == 1:
        return ("name", dice.choice(NAMES))
    return ("op", dice.choice("+-*<="), make_term(dice, depth - 1), make_term(dice, depth - 1))


def make_sum(dice, kinds):
    return tuple(dice.choice((0, 0, 1, 2, 3)) for _ in kinds)


def make_sums(dice, kinds):
    return tuple(make_sum(dice, kinds) for _ in range(dice.randrange(1, 5)))


def make_throw(dice, kinds):
    sort = dice.choice(("ladder", "flat", "choose", "first"))
    x = dice.choice(NAMES)
    low, high, mark = (dice.randrange(10) for _ in range(3))
    if sort == "ladder":
        return (sort, x, make_sum(dice, kinds), dice.choice(STEEPNESSES), low, high)
    if sort == "flat":
        return (sort, x, make_sum(dice, kinds), dice.randrange(5), low, high)
    if sort == "choose":
        return (sort, x, make_sums(dice, kinds), dice.choice(STEEPNESSES), low, high)
    return (sort, x, mark, dice.choice(STEEPNESSES), dice.choice(STEEPNESSES), make_sums(dice, kinds), low, high)


def make_row(dice, kinds, depth):
    pick = dice.randrange(5 if depth else 3)
    if pick == 0:
        return make_throw(dice, kinds)
    if pick == 1:
        return ("let", dice.choice(NAMES), make_term(dice))
    if pick == 2:
        return ("tell", make_term(dice))
    if pick == 3:
        return ("when", make_term(dice), make_rows(dice, kinds, depth - 1), make_rows(dice, kinds, depth - 1))
    return ("times", dice.randrange(1, 4), make_rows(dice, kinds, depth - 1))


def make_rows(dice, kinds, depth):
    return tuple(make_row(dice, kinds, depth) for _ in range(dice.randrange(4)))


def make_program(seed):
    dice = random.Random(seed)
    kinds = tuple(dice.sample(KINDS, dice.randrange(len(KINDS))))
    return (kinds, make_rows(dice, kinds, 3))


def deep_whens(depth):
    text = "kinds a" + "\nwhen 1\ntell 1\nelse\ntell 2" * depth + "\nend" * depth
    rows = ()
    for _ in range(depth):
        rows = (("when", ("num", 1), (("tell", ("num", 1)),), (("tell", ("num", 2)),) + rows),)
    return text, (("a",), rows)


def deep_times(depth):
    text = "kinds" + "\ntimes 2" * depth + "\ntell 7" + "\nend" * depth
    rows = (("tell", ("num", 7)),)
    for _ in range(depth):
        rows = (("times", 2, rows),)
    return text, ((), rows)


def deep_first_rows(depth):
    text = "kinds a" + "\nwhen 0\ntimes 3" * depth + "\nend\nelse\nend" * depth
    rows = ()
    for _ in range(depth):
        rows = (("when", ("num", 0), (("times", 3, rows),), ()),)
    return text, (("a",), rows)


def same(one, other):
    """Whether two things are the same, however deep: `==` goes down by calls."""
    waiting = [(one, other)]
    while waiting:
        one, other = waiting.pop()
        if type(one) is not type(other):
            return False
        if isinstance(one, tuple):
            if len(one) != len(other):
                return False
            waiting.extend(zip(one, other))
        elif one != other:
            return False
    return True


def known_term(dice, known, depth=2):
    pick = dice.randrange(4 if depth else 2)
    if pick == 0 or (pick == 1 and not known):
        return ("num", dice.choice((0, 0, 1, 1, 2, 7, 999)))
    if pick == 1:
        return ("name", dice.choice(sorted(known)))
    return ("op", dice.choice("+-*<="), known_term(dice, known, depth - 1), known_term(dice, known, depth - 1))


def narrow_throw(dice, kinds):
    """A throw of few values, so that programs of several have few runs."""
    row = make_throw(dice, kinds)
    low = dice.randrange(8)
    high = low + dice.choice((0, 1, 1, 2))
    if row[0] == "first":
        high = max(high, low + 1)
        return row[:2] + (dice.randrange(low, high + 1), row[3], dice.choice(((1, 2), (1, 3), (4, 9))), row[5][:2],
                          low, high)
    if row[0] == "choose":
        return row[:2] + (row[2][:2], row[3], low, high)
    return row[:4] + (low, high)


def low_throw(dice, kinds):
    """A throw of few values that few members move, so that there are few crowds up to the tops."""
    row = narrow_throw(dice, kinds)
    down = dice.randrange(max(row[-2] - 1, 0), row[-2] + 1)
    low, high = row[-2] - down, row[-1] - down
    return row[:2] + ((row[2] - down,) if row[0] == "first" else row[2:3]) + row[3:-2] + (low, high)


def flat_throw(dice, kinds):
    """A flat one of a few members, so narrow that answers are lacking for a neighbour."""
    return ("flat", dice.choice(NAMES), make_sum(dice, kinds), dice.choice((0, 0, 1)), 0, dice.choice((1, 2, 3)))


def right_rows(dice, kinds, known, depth, throw=narrow_throw):
    """Rows that are let by where `known` are set, the names set behind them, and how many values they tell."""
    rows = []
    tells = 0
    for _ in range(dice.randrange(1, 5)):
        pick = dice.randrange(8 if depth else 5)
        if pick < 3:
            rows.append(throw(dice, kinds))
            known = known | {rows[-1][1]}
        elif pick == 3:
            rows.append(("let", dice.choice(NAMES), known_term(dice, known)))
            known = known | {rows[-1][1]}
        elif pick == 4:
            rows.append(("tell", known_term(dice, known)))
            tells += 1
        elif pick < 7:
            term = known_term(dice, known)
            one, one_known, one_tells = right_rows(dice, kinds, known, depth - 1, throw)
            other, other_known, other_tells = right_rows(dice, kinds, known, depth - 1, throw)
            one += tuple(("tell", known_term(dice, one_known)) for _ in range(other_tells - one_tells))
            other += tuple(("tell", known_term(dice, other_known)) for _ in range(one_tells - other_tells))
            rows.append(("when", term, one, other))
            known = one_known & other_known
            tells += max(one_tells, other_tells)
        else:
            inner, known, inner_tells = right_rows(dice, kinds, known, depth - 1, throw)
            k = dice.randrange(1, 4)
            rows.append(("times", k, inner))
            tells += k * inner_tells
    return tuple(rows), known, tells


def right_program(seed, throw=narrow_throw):
    """A program that is let by."""
    dice = random.Random(seed)
    kinds = tuple(dice.sample(KINDS, dice.randrange(1, 4)))
    rows, known, _ = right_rows(dice, kinds, frozenset(), dice.randrange(4), throw)
    return (kinds, rows + (("tell", known_term(dice, known)),))


def inner_first(rows):
    """All rows in the order in which they are gone through, by calls within calls."""
    for row in rows:
        yield row
        if row[0] == "when":
            yield from inner_first(row[2])
            yield from inner_first(row[3])
        if row[0] == "times":
            yield from inner_first(row[2])


def value_of_term(term, values):
    """Point 7, by calls within calls."""
    if term[0] == "num":
        return term[1]
    if term[0] == "name":
        return values[term[1]]
    one, other = (value_of_term(part, values) for part in term[2:])
    told = {"+": one + other, "-": one - other, "*": one * other, "<": int(one < other), "=": int(one == other)}
    return told[term[1]] % 10 ** 6


def pair(fraction):
    fraction = Fraction(fraction)
    return (fraction.numerator, fraction.denominator)


def names_in(term):
    if term[0] == "op":
        return names_in(term[2]) | names_in(term[3])
    return {term[1]} if term[0] == "name" else set()


def needed_names(program):
    """Point 26, said again and again until nothing comes in."""
    names = set()
    while True:
        before = set(names)
        for row in inner_first(program[1]):
            if row[0] in ("tell", "when"):
                names |= names_in(row[1])
            if row[0] == "let" and row[1] in names:
                names |= names_in(row[2])
        if names == before:
            return names


def is_idle(row, names):
    """Point 27, by the needed names."""
    return (row[0] in THROWS or row[0] == "let") and row[1] not in names


def sums_in(row):
    if row[0] == "first":
        return row[5]
    return row[2] if row[0] == "choose" else (row[2],)


def wide(rows, ahead, last):
    """The rows with more weights in each sum: some ahead of its own, some behind them."""
    told = []
    for row in rows:
        if row[0] in THROWS:
            place = 5 if row[0] == "first" else 2
            sums = ahead + row[place] + last if row[0] in ("ladder", "flat") else \
                tuple(ahead + weights + last for weights in row[place])
            row = row[:place] + (sums,) + row[place + 1:]
        elif row[0] in ("when", "times"):
            row = row[:2] + tuple(wide(inner, ahead, last) for inner in row[2:])
        told.append(row)
    return tuple(told)


def g_share(a, k):
    return (1 - a) / (1 + a) * a ** abs(k)


def g_tail(a, k):
    """All of G from k on, told from the half of it that lies on either side of 0."""
    tail = (1 + g_share(a, 0)) / 2
    return tail - sum(g_share(a, j) for j in range(0, k)) + sum(g_share(a, j) for j in range(k, 0))


def row_price(row, kind):
    """Point 25, of a throw, a let, a tell, as two of Python's fractions."""
    if row[0] not in THROWS:
        return Fraction(1), Fraction(0)
    w = max(weights[kind] for weights in sums_in(row))
    if w == 0:
        return Fraction(1), Fraction(0)
    if row[0] == "flat":
        return Fraction(1), min(Fraction(w, 2 * row[3] + 1), Fraction(1))
    if row[0] == "first":
        a, b = Fraction(*row[3]), Fraction(*row[4])
        return (1 / a) ** w * (1 / b) ** (2 * w), g_tail(a, row[7] - w - row[2])
    return (1 / Fraction(*row[3])) ** w, Fraction(0)


def rows_price(rows, kind, names):
    factor, rest = Fraction(1), Fraction(0)
    for row in rows:
        one = inner_price(row, kind, names)
        factor, rest = factor * one[0], rest + one[1]
    return factor, rest


def inner_price(row, kind, names):
    if row[0] == "when":
        one, other = (rows_price(rows, kind, names) for rows in row[2:])
        return max(one[0], other[0]), max(one[1], other[1])
    if row[0] == "times":
        factor, rest = rows_price(row[2], kind, names)
        return factor ** row[1], rest * row[1]
    return (Fraction(1), Fraction(0)) if is_idle(row, names) else row_price(row, kind)


def program_price(program, kind):
    """Point 25, of a program, as two fractions of the document's form."""
    factor, rest = rows_price(program[1], kind, needed_names(program))
    return pair(factor), pair(rest)


def rows_places(place, rows):
    """Each place with its part and those right in it, in the order of point 30."""
    for k, row in enumerate(rows):
        here = place + (k,)
        if row[0] in ("when", "times"):
            for side, inner in enumerate(row[2:]):
                yield from rows_places(here + (side,), inner)
            yield here, row, [here + (side,) for side in range(len(row[2:]))]
        else:
            yield here, row, []
    yield place, rows, [place + (k,) for k in range(len(rows))]


def is_rows(part):
    return part == () or isinstance(part[0], tuple)


def right_rules(part, names):
    if is_rows(part):
        return ["rows"]
    rules = [PLAIN_RULES.get(part[0], "throw")]
    return rules + ["idle"] if is_idle(part, names) else rules


def due(part, rule, kind, inner):
    """What point 25 makes of a part by this rule out of the parts right in it, as two of Python's fractions."""
    if rule == "idle":
        return Fraction(1), Fraction(0)
    if rule in ("throw", "plain"):
        return row_price(part, kind)
    if rule == "either":
        return max(one[0] for one in inner), max(one[1] for one in inner)
    if rule == "again":
        return inner[0][0] ** part[1], inner[0][1] * part[1]
    factor, rest = Fraction(1), Fraction(0)
    for one in inner:
        factor, rest = factor * one[0], rest + one[1]
    return factor, rest


def own_paper(program, kind, more=lambda: 0):
    """Point 30, or a paper that shows more than is due at each line: by what `more` tells."""
    names = needed_names(program)
    lines, made = [], {}
    for place, part, inner in rows_places((), program[1]):
        rule = right_rules(part, names)[-1]
        made[place] = tuple(least + more() for least in due(part, rule, kind, [made[one] for one in inner]))
        lines.append((place, rule) + tuple(map(pair, made[place])))
    return tuple(lines)


def cut_number(weights, crowd, low, high):
    number = sum(weight * count for weight, count in zip(weights, crowd))
    return low if number < low else high if number > high else number


def cut_numbers(row, crowd):
    """Points 13 and 17: the cut number of each of a throw's sums."""
    high = row[-1] - 1 if row[0] == "first" else row[-1]
    return [cut_number(weights, crowd, row[-2], high) for weights in sums_in(row)]


def one_more(crowd, kind):
    return crowd[:kind] + (crowd[kind] + 1,) + crowd[kind + 1:]


def tried_tops(program, most=11):
    """Point 31, by one count more and one more, up to `most`, whatever the other counts up to that."""
    throws = [row for row in inner_first(program[1]) if row[0] in THROWS]
    crowds = list(itertools.product(range(most + 1), repeat=len(program[0])))
    told = []
    for kind in range(len(program[0])):
        moves = [crowd[kind] for crowd in crowds for row in throws
                 if cut_numbers(row, crowd) != cut_numbers(row, one_more(crowd, kind))]
        told.append(max(moves) + 1 if moves else 0)
    return tuple(told)


def gaps(one, other, factor):
    """Of each answer that the one has: its share less the factor times the other's, where that is above 0."""
    shares = {answer: Fraction(*share) for answer, share in other}
    told = {answer: Fraction(*share) - Fraction(*factor) * shares.get(answer, 0) for answer, share in one}
    return {answer: gap for answer, gap in told.items() if gap > 0}


def rest_between(one, other, factor):
    """Point 21: the least rest for a factor."""
    return sum(gaps(one, other, factor).values(), Fraction(0))
