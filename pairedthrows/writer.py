"""Programs and terms, written as their texts."""

from pairedthrows.forms import THROWS, place_of_sums, steps_of, sums_of


def show_term(term):
    pieces = []
    # Texts among what waits are written as they stand.
    waiting = [term]
    while waiting:
        part = waiting.pop()
        if isinstance(part, str):
            pieces.append(part)
        elif part[0] == "op":
            waiting.extend([")", part[3], " ", part[2], " ", part[1], "("])
        else:
            pieces.append(str(part[1]))
    return "".join(pieces)


def show_sum(weights, kinds):
    words = []
    for kind, weight in zip(kinds, weights):
        words.extend([kind] * weight)
    return " ".join(words) if words else "-"


def show_field(value):
    if isinstance(value, tuple):
        top = value[0]
        bottom = value[1]
        return f"{top}/{bottom}"
    return str(value)


def show_throw(row, kinds):
    place = place_of_sums(row[0])
    fields = [show_field(value) for value in row[1:place] + row[place + 1:]]
    asked = " | ".join([show_sum(weights, kinds) for weights in sums_of(row)])
    return " ".join([row[0]] + fields + ["of", asked])


def show_row(row, kinds):
    sort = row[0]
    if sort in THROWS:
        return show_throw(row, kinds)
    if sort == "times":
        return " ".join([sort, str(row[1])])
    if sort == "let":
        return " ".join([sort, row[1], show_term(row[2])])
    return " ".join([sort, show_term(row[1])])


def show(program):
    kinds = program[0]
    lines = [" ".join(["kinds"] + list(kinds))]
    for word, row, number in steps_of(program[1]):
        lines.append(show_row(row, kinds) if word == "row" else word)
    return "\n".join(lines)
