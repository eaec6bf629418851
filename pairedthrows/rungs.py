"""Rungs paired by a shift, and ladders of two numbers that are paired so."""

from pairedthrows.fractions import power
from pairedthrows.paired import paired
from pairedthrows.throws import cut, ladder_table


def partners_of(rung, low, high, s):
    shifted = cut(rung + s, low, high)
    # At the end that it is shifted away from, a rung stands for all that was cut there.
    if s > 0 and rung == low:
        return list(range(low, shifted + 1))
    if s < 0 and rung == high:
        return list(range(shifted, high + 1))
    return [shifted]


def may_pair(low, high, s):
    pairs = []
    for rung in range(low, high + 1):
        pairs.extend([(rung, partner) for partner in partners_of(rung, low, high, s)])
    return tuple(pairs)


def rungs_paired(steepness, low, high, n, m, s):
    factor = power((steepness[1], steepness[0]), abs(m - s))
    one = ladder_table(n, steepness, low, high)
    other = ladder_table(n + m, steepness, low, high)
    # By this factor there is always a pairing, so what is told is never a broken one.
    told = paired(one, other, may_pair(low, high, s), factor, (0, 1))
    return (factor, told[1])
