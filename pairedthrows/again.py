"""Rungs thrown again: how a ladder becomes a less steep one, whatever its number was."""

from pairedthrows.errors import NoRows
from pairedthrows.fractions import divided, less, minus, times
from pairedthrows.tables import merged
from pairedthrows.throws import ladder_table

ONE = (1, 1)


# With this share a rung of the ladder of a is thrown by the ladder of b; else it stays.
def share_moved(a, b, at_end):
    stays = minus(ONE, a)
    moved = divided(minus(ONE, divided(a, b)), stays)
    if at_end:
        return moved
    return times(moved, divided(minus(ONE, times(a, b)), stays))


def row_between(a, b, low, high, rung):
    moved = share_moved(a, b, rung in (low, high))
    pairs = [(other, times(moved, share)) for other, share in ladder_table(rung, b, low, high)]
    return merged(pairs + [(rung, minus(ONE, moved))])


def rows_between(a, b, low, high):
    if less(b, a):
        raise NoRows()
    return tuple([row_between(a, b, low, high, rung) for rung in range(low, high + 1)])


def thrown_again(table, low, rows):
    pairs = []
    for rung, share in table:
        pairs.extend([(other, times(share, part)) for other, part in rows[rung - low]])
    return merged(pairs)
