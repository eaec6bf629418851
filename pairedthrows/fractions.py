"""Fractions: tuples (top, bottom) of whole numbers, always in lowest terms."""


def common_divisor(one, other):
    while other != 0:
        remainder = one % other
        one = other
        other = remainder
    return one


def lowest(top, bottom):
    divisor = common_divisor(top, bottom)
    return (top // divisor, bottom // divisor)


def added(one, other):
    return lowest(one[0] * other[1] + other[0] * one[1], one[1] * other[1])


def times(one, other):
    return lowest(one[0] * other[0], one[1] * other[1])


# Fractions go from 0 on, so the other is no greater than the one.
def minus(one, other):
    return lowest(one[0] * other[1] - other[0] * one[1], one[1] * other[1])


def divided(one, other):
    return lowest(one[0] * other[1], one[1] * other[0])


def power(one, k):
    # Powers of a fraction in lowest terms share no divisor either, so none is looked for.
    top = 1
    bottom = 1
    for step in range(k):
        top = top * one[0]
        bottom = bottom * one[1]
    return (top, bottom)


def less(one, other):
    return one[0] * other[1] < other[0] * one[1]
