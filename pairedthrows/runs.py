"""Runs: all ways through a program for a crowd, and what they tell."""

from pairedthrows.errors import TooMany
from pairedthrows.forms import THROWS
from pairedthrows.fractions import times
from pairedthrows.parts import value_of
from pairedthrows.tables import merged
from pairedthrows.throws import thrown


# A run that is under way: the rows still to come as (row, those behind it), None behind the
# last, so that runs that part from one another need no copies of them; the names' values so
# far; the values told so far; its share so far.
class Run:
    def __init__(self, coming, known, told, share):
        self.coming = coming
        self.known = known
        self.told = told
        self.share = share


def put_ahead(rows, coming):
    for row in reversed(rows):
        coming = (row, coming)
    return coming


def take_row(run, row):
    if row[0] == "let":
        run.known[row[1]] = value_of(row[2], run.known)
    elif row[0] == "tell":
        run.told.append(value_of(row[1], run.known))
    elif row[0] == "when":
        rows = row[2] if value_of(row[1], run.known) != 0 else row[3]
        run.coming = put_ahead(rows, run.coming)
    else:
        for time in range(row[1]):
            run.coming = put_ahead(row[2], run.coming)


# Goes on to the next throw and tells it, or None at the run's end.
def next_throw(run):
    while run.coming is not None:
        row = run.coming[0]
        run.coming = run.coming[1]
        if row[0] in THROWS:
            return row
        take_row(run, row)
    return None


def parted(run, name, table):
    runs = []
    for value, share in table:
        known = dict(run.known)
        known[name] = value
        runs.append(Run(run.coming, known, list(run.told), times(run.share, share)))
    return runs


# Each run's told answer and its share.
def all_runs(program, crowd, most):
    # A throw looks at the crowd alone, so it has one table however often it is come by.
    tables = {}
    ended = []
    waiting = [Run(put_ahead(program[1], None), {}, [], (1, 1))]
    while waiting:
        # Each one that waits comes to an end at least once.
        if len(ended) + len(waiting) > most:
            raise TooMany(most)
        run = waiting.pop()
        row = next_throw(run)
        if row is None:
            ended.append((tuple(run.told), run.share))
        else:
            if row not in tables:
                tables[row] = thrown(row, crowd)
            waiting.extend(parted(run, row[1], tables[row]))
    return ended


def runs_of(program, crowd, most=400):
    return len(all_runs(program, crowd, most))


def told_table(program, crowd, most=400):
    return merged(all_runs(program, crowd, most))
