"""Throws: what each tells of a crowd, as a table of shares."""

from pairedthrows.forms import range_of_sums, sums_of
from pairedthrows.fractions import divided, minus, power, times
from pairedthrows.tables import come_to, merged


def cut(number, low, high):
    return min(max(number, low), high)


def added_up(weights, crowd):
    return sum([weight * count for weight, count in zip(weights, crowd)])


def number_of(row, crowd):
    bounds = range_of_sums(row)
    return tuple([cut(added_up(weights, crowd), bounds[0], bounds[1]) for weights in sums_of(row)])


def share_of(steepness, k):
    top = steepness[0]
    bottom = steepness[1]
    return times((bottom - top, bottom + top), power(steepness, abs(k)))


# The tail from 0 or from above.
def far_tail(steepness, k):
    return times((steepness[1], steepness[1] + steepness[0]), power(steepness, k))


def tail_of(steepness, k):
    if k >= 0:
        return far_tail(steepness, k)
    # Both sides fall alike: below k there is as much as above -k.
    return minus((1, 1), far_tail(steepness, 1 - k))


def ladder_table(number, steepness, low, high):
    if low == high:
        return ((low, (1, 1)),)
    between = [(rung, share_of(steepness, rung - number)) for rung in range(low + 1, high)]
    lowest_rung = (low, tail_of(steepness, number - low))
    highest_rung = (high, tail_of(steepness, high - number))
    return tuple([lowest_rung] + between + [highest_rung])


def flat_table(number, spread, low, high):
    share = (1, 2 * spread + 1)
    return merged([(cut(number + move, low, high), share) for move in range(-spread, spread + 1)])


def choose_table(numbers, steepness):
    weights = [power((steepness[1], steepness[0]), number) for number in numbers]
    total = come_to(weights)
    return tuple([(place, divided(weight, total)) for place, weight in enumerate(weights)])


# How much of a ladder's table is no less than the mark.
def share_from(mark, number, steepness, low, high):
    if mark <= low:
        return (1, 1)
    if mark > high:
        return (0, 1)
    return tail_of(steepness, mark - number)


def first_table(row, crowd):
    low = row[6]
    high = row[7]
    numbers = number_of(row, crowd)
    pairs = []
    for mark, share in ladder_table(row[2], row[3], low, high):
        # What is left of this mark's share where all sums so far were a no.
        left = share
        for place, number in enumerate(numbers):
            yes = share_from(mark, number, row[4], low, high - 1)
            pairs.append((place, times(left, yes)))
            left = times(left, minus((1, 1), yes))
        pairs.append((len(numbers), left))
    return merged(pairs)


def thrown(row, crowd):
    if row[0] == "first":
        return first_table(row, crowd)
    numbers = number_of(row, crowd)
    if row[0] == "choose":
        return choose_table(numbers, row[3])
    if row[0] == "flat":
        return flat_table(numbers[0], row[3], row[4], row[5])
    return ladder_table(numbers[0], row[3], row[4], row[5])
