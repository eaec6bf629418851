"""Programs made for the tests, the same ones each time: a seed picks them."""

import random

NAMES = ("x", "y", "z", "a", "b", "abcdefgh")
KINDS = ("a", "b", "c", "x", "kind", "abcdefgh", "ladders")
STEEPNESSES = ((1, 2), (1, 3), (2, 3), (8, 9), (1, 9), (4, 7))


def make_term(dice, depth=3):
    pick = dice.randrange(3 if depth else 2)
    if pick == 0:
        return ("num", dice.choice((0, 1, 9, 10, 99, 100, 999)))
    if pick == 1:
        return ("name", dice.choice(NAMES))
    return ("op", dice.choice("+-*<="), make_term(dice, depth - 1), make_term(dice, depth - 1))


def make_sum(dice, kinds):
    return tuple(dice.choice((0, 0, 1, 2, 3)) for _ in kinds)


def make_sums(dice, kinds):
    return tuple(make_sum(dice, kinds) for _ in range(dice.randrange(1, 5)))


def make_throw(dice, kinds):
    sort = dice.choice(("ladder", "flat", "choose", "first"))
    x = dice.choice(NAMES)
    low, high, mark = (dice.randrange(10) for _ in range(3))
    if sort == "ladder":
        return (sort, x, make_sum(dice, kinds), dice.choice(STEEPNESSES), low, high)
    if sort == "flat":
        return (sort, x, make_sum(dice, kinds), dice.randrange(5), low, high)
    if sort == "choose":
        return (sort, x, make_sums(dice, kinds), dice.choice(STEEPNESSES), low, high)
    return (sort, x, mark, dice.choice(STEEPNESSES), dice.choice(STEEPNESSES), make_sums(dice, kinds), low, high)


def make_row(dice, kinds, depth):
    pick = dice.randrange(5 if depth else 3)
    if pick == 0:
        return make_throw(dice, kinds)
    if pick == 1:
        return ("let", dice.choice(NAMES), make_term(dice))
    if pick == 2:
        return ("tell", make_term(dice))
    if pick == 3:
        return ("when", make_term(dice), make_rows(dice, kinds, depth - 1), make_rows(dice, kinds, depth - 1))
    return ("times", dice.randrange(1, 4), make_rows(dice, kinds, depth - 1))


def make_rows(dice, kinds, depth):
    return tuple(make_row(dice, kinds, depth) for _ in range(dice.randrange(4)))


def make_program(seed):
    dice = random.Random(seed)
    kinds = tuple(dice.sample(KINDS, dice.randrange(len(KINDS))))
    return (kinds, make_rows(dice, kinds, 3))


def deep_whens(depth):
    text = "kinds a" + "\nwhen 1\ntell 1\nelse\ntell 2" * depth + "\nend" * depth
    rows = ()
    for _ in range(depth):
        rows = (("when", ("num", 1), (("tell", ("num", 1)),), (("tell", ("num", 2)),) + rows),)
    return text, (("a",), rows)


def deep_times(depth):
    text = "kinds" + "\ntimes 2" * depth + "\ntell 7" + "\nend" * depth
    rows = (("tell", ("num", 7)),)
    for _ in range(depth):
        rows = (("times", 2, rows),)
    return text, ((), rows)


def deep_first_rows(depth):
    text = "kinds a" + "\nwhen 0\ntimes 3" * depth + "\nend\nelse\nend" * depth
    rows = ()
    for _ in range(depth):
        rows = (("when", ("num", 0), (("times", 3, rows),), ()),)
    return text, (("a",), rows)


def same(one, other):
    """Whether two things are the same, however deep: `==` goes down by calls."""
    waiting = [(one, other)]
    while waiting:
        one, other = waiting.pop()
        if type(one) is not type(other):
            return False
        if isinstance(one, tuple):
            if len(one) != len(other):
                return False
            waiting.extend(zip(one, other))
        elif one != other:
            return False
    return True


def known_term(dice, known, depth=2):
    pick = dice.randrange(4 if depth else 2)
    if pick == 0 or (pick == 1 and not known):
        return ("num", dice.choice((0, 0, 1, 1, 2, 7, 999)))
    if pick == 1:
        return ("name", dice.choice(sorted(known)))
    return ("op", dice.choice("+-*<="), known_term(dice, known, depth - 1), known_term(dice, known, depth - 1))


def narrow_throw(dice, kinds):
    """A throw of few values, so that programs of several have few runs."""
    row = make_throw(dice, kinds)
    low = dice.randrange(8)
    high = low + dice.choice((0, 1, 1, 2))
    if row[0] == "first":
        high = max(high, low + 1)
        return row[:2] + (dice.randrange(low, high + 1), row[3], dice.choice(((1, 2), (1, 3), (4, 9))), row[5][:2],
                          low, high)
    if row[0] == "choose":
        return row[:2] + (row[2][:2], row[3], low, high)
    return row[:4] + (low, high)


def right_rows(dice, kinds, known, depth):
    """Rows that are let by where `known` are set, the names set behind them, and how many values they tell."""
    rows = []
    tells = 0
    for _ in range(dice.randrange(1, 5)):
        pick = dice.randrange(8 if depth else 5)
        if pick < 3:
            rows.append(narrow_throw(dice, kinds))
            known = known | {rows[-1][1]}
        elif pick == 3:
            rows.append(("let", dice.choice(NAMES), known_term(dice, known)))
            known = known | {rows[-1][1]}
        elif pick == 4:
            rows.append(("tell", known_term(dice, known)))
            tells += 1
        elif pick < 7:
            term = known_term(dice, known)
            one, one_known, one_tells = right_rows(dice, kinds, known, depth - 1)
            other, other_known, other_tells = right_rows(dice, kinds, known, depth - 1)
            one += tuple(("tell", known_term(dice, one_known)) for _ in range(other_tells - one_tells))
            other += tuple(("tell", known_term(dice, other_known)) for _ in range(one_tells - other_tells))
            rows.append(("when", term, one, other))
            known = one_known & other_known
            tells += max(one_tells, other_tells)
        else:
            inner, known, inner_tells = right_rows(dice, kinds, known, depth - 1)
            k = dice.randrange(1, 4)
            rows.append(("times", k, inner))
            tells += k * inner_tells
    return tuple(rows), known, tells


def right_program(seed):
    """A program that is let by."""
    dice = random.Random(seed)
    kinds = tuple(dice.sample(KINDS, dice.randrange(1, 4)))
    rows, known, _ = right_rows(dice, kinds, frozenset(), dice.randrange(4))
    return (kinds, rows + (("tell", known_term(dice, known)),))


def inner_first(rows):
    """All rows in the order in which they are gone through, by calls within calls."""
    for row in rows:
        yield row
        if row[0] == "when":
            yield from inner_first(row[2])
            yield from inner_first(row[3])
        if row[0] == "times":
            yield from inner_first(row[2])


def value_of_term(term, values):
    """Point 7, by calls within calls."""
    if term[0] == "num":
        return term[1]
    if term[0] == "name":
        return values[term[1]]
    one, other = (value_of_term(part, values) for part in term[2:])
    told = {"+": one + other, "-": one - other, "*": one * other, "<": int(one < other), "=": int(one == other)}
    return told[term[1]] % 10 ** 6
