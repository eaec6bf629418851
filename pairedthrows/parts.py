"""A program's rows and throws, and what a term comes to."""

from pairedthrows.forms import THROWS, parts_of, steps_of

# Sums, differences and products are told as their rest by this.
WRAP = 1000000


def rows_in(program):
    return [row for word, row, number in steps_of(program[1]) if word == "row"]


def throws_in(program):
    return [row for row in rows_in(program) if row[0] in THROWS]


def worked_out(sign, one, other):
    if sign == "<":
        return 1 if one < other else 0
    if sign == "=":
        return 1 if one == other else 0
    if sign == "+":
        return (one + other) % WRAP
    if sign == "-":
        return (one - other) % WRAP
    return one * other % WRAP


def value_of(term, values):
    # From the last part on: so both parts of an op are worked out ahead of it, the first one last.
    ready = []
    for part in reversed(parts_of(term)):
        if part[0] == "num":
            ready.append(part[1])
        elif part[0] == "name":
            ready.append(values[part[1]])
        else:
            one = ready.pop()
            other = ready.pop()
            ready.append(worked_out(part[1], one, other))
    return ready[0]
