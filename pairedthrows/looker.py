"""Whether a program is let by.

A fault is a tuple (row, rank, word). Some are only seen behind the rows that follow, so
all are gathered, and the least one is the first that is amiss.
"""

from pairedthrows.errors import NoProgram
from pairedthrows.forms import THROWS, begins_rows, names_asked, sets_name, steps_of

MOST_KINDS = 3


def first_is_amiss(row):
    mark = row[2]
    steepness = row[4]
    low = row[6]
    high = row[7]
    return high <= low or not low <= mark <= high or 2 * steepness[0] > steepness[1]


def range_is_amiss(row):
    if row[0] == "first":
        return first_is_amiss(row)
    return row[0] in THROWS and row[4] > row[5]


def range_faults(steps):
    return [(number, 0, "range") for word, row, number in steps if word == "row" and range_is_amiss(row)]


def in_both(one, other):
    both = {}
    for name in one:
        if name in other:
            both[name] = True
    return both


def unknown_faults(steps):
    faults = []
    known = {}
    # Of each when that is not at its end: the names set ahead of it, or, behind its else, behind its rows.
    kept = []
    for word, row, number in steps:
        if word == "row":
            if not all([name in known for name in names_asked(row)]):
                faults.append((number, 1, "unknown"))
            if sets_name(row):
                known[row[1]] = True
            if row[0] == "when":
                kept.append(dict(known))
        elif word == "else":
            ahead = kept.pop()
            kept.append(known)
            known = ahead
        elif row[0] == "when":
            known = in_both(kept.pop(), known)
    return faults


def tells_faults(steps):
    faults = []
    # How many tells there are so far in each tuple of rows that is not at its end.
    counts = [0]
    for word, row, number in steps:
        if begins_rows(word, row):
            counts.append(0)
        elif row[0] == "tell":
            counts[-1] += 1
        elif word == "end" and row[0] == "times":
            inner = counts.pop()
            counts[-1] += row[1] * inner
        elif word == "end":
            other = counts.pop()
            # A when that is amiss still counts by its first rows: what it is in may be right.
            inner = counts.pop()
            counts[-1] += inner
            if inner != other:
                faults.append((number, 2, "tells"))
    return faults


def look_at_kinds(kinds):
    if not 1 <= len(kinds) <= MOST_KINDS:
        raise NoProgram("kinds", -1)
    if len(set(kinds)) < len(kinds):
        raise NoProgram("twice", -1)


def look(program):
    look_at_kinds(program[0])
    steps = steps_of(program[1])
    faults = range_faults(steps) + unknown_faults(steps) + tells_faults(steps)
    if faults:
        fault = min(faults)
        raise NoProgram(fault[2], fault[0])
    if not any([step[1][0] == "tell" for step in steps]):
        raise NoProgram("silent", -1)
    return True
