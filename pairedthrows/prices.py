"""Prices: what a part spends of a kind, as a factor and a rest that hold for every crowd."""

from pairedthrows.forms import THROWS, is_row, parts_right_in, places_of, places_right_in, sums_of
from pairedthrows.fractions import added, less, lowest, power, times
from pairedthrows.needed import is_idle, needed
from pairedthrows.throws import tail_of

FREE = ((1, 1), (0, 1))


def turned_power(steepness, k):
    return power((steepness[1], steepness[0]), k)


def price_of_throw(row, kind):
    weight = max([weights[kind] for weights in sums_of(row)])
    if weight == 0:
        return FREE
    if row[0] == "flat":
        moves = 2 * row[3] + 1
        return (FREE[0], lowest(min(weight, moves), moves))
    if row[0] == "first":
        factor = times(turned_power(row[3], weight), turned_power(row[4], 2 * weight))
        return (factor, tail_of(row[3], row[7] - weight - row[2]))
    return (turned_power(row[3], weight), FREE[1])


def price_of_row(row, kind):
    return price_of_throw(row, kind) if row[0] in THROWS else FREE


def price_behind(prices):
    factor = FREE[0]
    rest = FREE[1]
    for one in prices:
        factor = times(factor, one[0])
        rest = added(rest, one[1])
    return (factor, rest)


def greatest(fractions):
    found = fractions[0]
    for fraction in fractions:
        if less(found, fraction):
            found = fraction
    return found


# The factor may be the one's and the rest the other's.
def greatest_of(prices):
    return (greatest([one[0] for one in prices]), greatest([one[1] for one in prices]))


# What a part that may have others in it comes to, by the prices of those right in it.
def price_made(part, prices):
    if not is_row(part):
        return price_behind(prices)
    if part[0] == "when":
        return greatest_of(prices)
    factor = power(prices[0][0], part[1])
    return (factor, times(prices[0][1], (part[1], 1)))


# A dict from each place to its price, parts ahead of what they are in.
def prices_of(program, kind):
    names = needed(program)
    prices = {}
    for place, part in places_of(program[1]):
        if is_row(part) and is_idle(part, names):
            prices[place] = FREE
        elif is_row(part) and not parts_right_in(part):
            prices[place] = price_of_row(part, kind)
        else:
            prices[place] = price_made(part, [prices[inner] for inner in places_right_in(place, part)])
    return prices


def price(program, kind):
    return prices_of(program, kind)[()]


def greatest_price(program):
    return greatest_of([price(program, kind) for kind in range(len(program[0]))])
