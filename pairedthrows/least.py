"""The least factor, and the least rest for a factor, that hold for all crowds, with crowds that meet them."""

from pairedthrows.compared import breaking, least_factor, least_rest
from pairedthrows.crowds import all_crowds
from pairedthrows.fractions import divided, less
from pairedthrows.parts import throws_in
from pairedthrows.runs import told_table
from pairedthrows.throws import number_of


# A dict from each crowd up to the tops to its told table.
def all_tables(program, most):
    throws = throws_in(program)
    tables = {}
    # Throws see a crowd by their numbers alone, so crowds that are alike in them have one table.
    known = {}
    for crowd in all_crowds(program, most):
        numbers = tuple([number_of(row, crowd) for row in throws])
        if numbers not in known:
            known[numbers] = told_table(program, crowd, most)
        tables[crowd] = known[numbers]
    return tables


# All pairs of crowds that are one member of the kind apart, either one first.
def neighbours(tables, kind):
    pairs = []
    for crowd in tables:
        more = crowd[:kind] + (crowd[kind] + 1,) + crowd[kind + 1:]
        if more in tables:
            pairs.extend([(crowd, more), (more, crowd)])
    return pairs


def nobody(program):
    return (0,) * len(program[0])


def least_rest_of(program, kind, factor, most=400):
    tables = all_tables(program, most)
    greatest = None
    for one, other in neighbours(tables, kind):
        rest = least_rest(tables[one], tables[other], factor)
        if greatest is None or less(greatest[0], rest):
            greatest = (rest, one, other)
    if greatest is None:
        return ((0, 1), nobody(program), nobody(program), ())
    return greatest + (breaking(tables[greatest[1]], tables[greatest[2]], factor),)


def lacking(one, other):
    others = dict(other)
    return [answer for answer, share in one if answer not in others]


def with_quotient(one, other, factor):
    others = dict(other)
    return [answer for answer, share in one if divided(share, others[answer]) == factor]


def least_factor_of(program, kind, most=400):
    tables = all_tables(program, most)
    greatest = None
    for one, other in neighbours(tables, kind):
        factor = least_factor(tables[one], tables[other])
        if factor is None:
            return (None, one, other, (lacking(tables[one], tables[other])[0],))
        if greatest is None or less(greatest[0], factor):
            greatest = (factor, one, other)
    if greatest is None:
        return ((1, 1), nobody(program), nobody(program), ())
    answers = with_quotient(tables[greatest[1]], tables[greatest[2]], greatest[0])
    return greatest + ((answers[0],),)
