"""Whether a factor and a rest hold: by a paper, else by two crowds that break it, or it stays open."""

from pairedthrows.fractions import less
from pairedthrows.least import least_rest_of
from pairedthrows.papers import paper_of
from pairedthrows.prices import price


def holds(program, kind, factor, rest, most=400):
    shown = price(program, kind)
    if not less(factor, shown[0]) and not less(rest, shown[1]):
        return ("paper", paper_of(program, kind))
    least = least_rest_of(program, kind, factor, most)
    if less(rest, least[0]):
        return ("breaks",) + least[1:]
    return ("open",) + shown
