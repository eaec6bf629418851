"""Programs put together: one behind another, one beside another, or with a ladder exchanged."""

from pairedthrows.errors import NoFit
from pairedthrows.forms import THROWS, has_one_sum, names_asked, place_of_sums, rebuilt, sets_name
from pairedthrows.looker import MOST_KINDS
from pairedthrows.parts import rows_in
from pairedthrows.words import LETTERS, is_name


def names_of_values(program):
    names = {}
    for row in rows_in(program):
        if sets_name(row):
            names[row[1]] = True
        for name in names_asked(row):
            names[name] = True
    return names


# Each number has a word of its own: a to z, then aa, ab and so on.
def spelled(number):
    word = ""
    while number >= 0:
        word = LETTERS[number % len(LETTERS)] + word
        number = number // len(LETTERS) - 1
    return word


# A dict from each name of values that both have to one that stands nowhere in the two.
def new_names(one, other):
    ones = names_of_values(one)
    others = names_of_values(other)
    taken = dict([(name, True) for name in list(one[0]) + list(other[0]) + list(ones) + list(others)])
    both = sorted([name for name in others if name in ones])
    told = {}
    number = 0
    for name in both:
        while not is_name(spelled(number)) or spelled(number) in taken:
            number += 1
        told[name] = spelled(number)
        number += 1
    return told


def renamed_term(term, names):
    if term[0] == "op":
        return ("op", term[1], renamed_term(term[2], names), renamed_term(term[3], names))
    if term[0] == "name":
        return ("name", names.get(term[1], term[1]))
    return term


def renamed_row(row, names):
    if row[0] == "let":
        return ("let", names.get(row[1], row[1]), renamed_term(row[2], names))
    if row[0] in THROWS:
        return (row[0], names.get(row[1], row[1])) + row[2:]
    if row[0] in ("tell", "when"):
        return (row[0], renamed_term(row[1], names)) + row[2:]
    return row


def renamed(rows, names):
    return rebuilt(rows, lambda row, number: [renamed_row(row, names)])


# The row with some weights more ahead of each sum's own, and some behind them.
def widened_row(row, first_ones, last_ones):
    if row[0] not in THROWS:
        return row
    place = place_of_sums(row[0])
    if has_one_sum(row[0]):
        asked = first_ones + row[place] + last_ones
    else:
        asked = tuple([first_ones + weights + last_ones for weights in row[place]])
    return row[:place] + (asked,) + row[place + 1:]


def widened(rows, first_ones, last_ones):
    return rebuilt(rows, lambda row, number: [widened_row(row, first_ones, last_ones)])


def behind(one, other):
    if one[0] != other[0]:
        raise NoFit()
    return (one[0], one[1] + renamed(other[1], new_names(one, other)))


def beside(one, other):
    kinds = one[0] + other[0]
    if len(kinds) > MOST_KINDS or len(set(kinds)) < len(kinds):
        raise NoFit()
    rows = widened(one[1], (), (0,) * len(other[0]))
    other_rows = widened(other[1], (0,) * len(one[0]), ())
    return (kinds, rows + renamed(other_rows, new_names(one, other)))


def exchanged(program, row, steepness):
    rows = rows_in(program)
    if not 0 <= row < len(rows) or rows[row][0] != "ladder":
        raise NoFit()
    ladder = rows[row][:3] + (steepness,) + rows[row][4:]
    return (program[0], rebuilt(program[1], lambda part, number: [ladder] if number == row else [part]))
