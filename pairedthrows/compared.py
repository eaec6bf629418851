"""Two tables compared: by which factor and which rest the one holds against the other."""

from pairedthrows.fractions import divided, less, minus, times
from pairedthrows.tables import come_to


# The one's answers that are above the factor times the other's share, each as
# (answer, share, that factor times the other's share).
def those_above(one, other, factor):
    others = dict(other)
    limits = [(answer, share, times(factor, others.get(answer, (0, 1)))) for answer, share in one]
    return [parts for parts in limits if less(parts[2], parts[1])]


def least_rest(one, other, factor):
    return come_to([minus(share, limit) for answer, share, limit in those_above(one, other, factor)])


def breaking(one, other, factor):
    return tuple([parts[0] for parts in those_above(one, other, factor)])


def least_factor(one, other):
    others = dict(other)
    greatest = (0, 1)
    for answer, share in one:
        if answer not in others:
            return None
        quotient = divided(share, others[answer])
        if less(greatest, quotient):
            greatest = quotient
    return greatest
