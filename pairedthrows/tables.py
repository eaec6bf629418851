"""Tables: tuples of (answer, share), rising by answers, whose shares come to 1."""

from pairedthrows.fractions import added, lowest


def is_whole(thing):
    return isinstance(thing, int) and not isinstance(thing, bool)


def are_numbers(answers):
    return all([is_whole(answer) for answer in answers])


def are_tuples(answers):
    return all([isinstance(answer, tuple) and are_numbers(answer) for answer in answers])


def are_rising(answers):
    return all([answers[k - 1] < answers[k] for k in range(1, len(answers))])


def is_share(pair):
    if pair[0] < 1 or pair[1] < 1:
        return False
    return lowest(pair[0], pair[1]) == pair


def come_to(shares):
    total = (0, 1)
    for share in shares:
        total = added(total, share)
    return total


def is_table(thing):
    answers = [pair[0] for pair in thing]
    shares = [pair[1] for pair in thing]
    # Answers of unlike sorts can't be told apart by their order, so their sort is looked at first.
    if not (are_numbers(answers) or are_tuples(answers)):
        return False
    if not are_rising(answers):
        return False
    return all([is_share(share) for share in shares]) and come_to(shares) == (1, 1)


def merged(pairs):
    totals = {}
    for pair in pairs:
        totals[pair[0]] = added(totals.get(pair[0], (0, 1)), pair[1])
    # Left out ahead of the sorting: what has no share need not be of the others' sort.
    answers = sorted([answer for answer in totals if totals[answer] != (0, 1)])
    return tuple([(answer, totals[answer]) for answer in answers])
