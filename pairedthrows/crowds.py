"""Crowds up to the tops: beyond those no member changes anything."""

from pairedthrows.errors import TooMany
from pairedthrows.forms import range_of_sums, sums_of
from pairedthrows.parts import throws_in


def top_of_row(row, kind):
    bounds = range_of_sums(row)
    if bounds[0] == bounds[1]:
        return 0
    asked = [weights[kind] for weights in sums_of(row) if weights[kind] > 0]
    # Other kinds' members only bring the end nearer: none moves it later than where there are none of them.
    return max([(bounds[1] + weight - 1) // weight for weight in asked], default=0)


def tops(program):
    throws = throws_in(program)
    return tuple([max([top_of_row(row, kind) for row in throws], default=0) for kind in range(len(program[0]))])


def all_crowds(program, most=400):
    limits = tops(program)
    many = 1
    for limit in limits:
        many = many * (limit + 1)
    if many > most:
        raise TooMany(most)
    crowds = [()]
    for limit in limits:
        longer = []
        for crowd in crowds:
            longer.extend([crowd + (count,) for count in range(limit + 1)])
        crowds = longer
    return crowds
