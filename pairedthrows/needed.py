"""Which names a program's answers need, and which rows are idle."""

from pairedthrows.forms import names_asked, sets_name
from pairedthrows.parts import rows_in


# Of each name that lets set, all names in their terms.
def names_behind(rows):
    behind = {}
    for row in rows:
        if row[0] == "let":
            behind.setdefault(row[1], []).extend(names_asked(row))
    return behind


def needed(program):
    rows = rows_in(program)
    behind = names_behind(rows)
    found = {}
    waiting = []
    for row in rows:
        if row[0] in ("tell", "when"):
            waiting.extend(names_asked(row))
    while waiting:
        name = waiting.pop()
        if name not in found:
            found[name] = True
            waiting.extend(behind.get(name, []))
    return tuple(sorted(found))


# Whether the row is idle where just these names are needed.
def is_idle(row, names):
    return sets_name(row) and row[1] not in names


def idle(program):
    names = needed(program)
    return tuple([number for number, row in enumerate(rows_in(program)) if is_idle(row, names)])
