"""What the other files know in common of the forms of rows and terms."""

SIGNS = ("+", "-", "*", "<", "=")

THROWS = ("ladder", "flat", "choose", "first")


def has_one_sum(sort):
    return sort in ("ladder", "flat")


# In a throw's row its sum, or its sums, stand in another place than in its text.
def place_of_sums(sort):
    return 5 if sort == "first" else 2


def sums_of(row):
    asked = row[place_of_sums(row[0])]
    return (asked,) if has_one_sum(row[0]) else asked


# The term and all its parts, each ahead of its own parts.
def parts_of(term):
    parts = []
    waiting = [term]
    while waiting:
        part = waiting.pop()
        parts.append(part)
        if part[0] == "op":
            waiting.extend([part[3], part[2]])
    return parts


def names_in(term):
    return [part[1] for part in parts_of(term) if part[0] == "name"]


# Between these a throw's sums are cut.
def range_of_sums(row):
    # A first's highest rung is kept for its mark, so that no sum need be a yes.
    return (row[-2], row[-1] - 1 if row[0] == "first" else row[-1])


def sets_name(row):
    return row[0] in THROWS or row[0] == "let"


# The names in the row's own term, not in its inner rows.
def names_asked(row):
    if row[0] == "let":
        return names_in(row[2])
    if row[0] in ("tell", "when"):
        return names_in(row[1])
    return []


def as_steps(rows):
    return [("row", row) for row in rows]


def inner_steps(row):
    if row[0] == "when":
        return as_steps(row[2]) + [("else", row)] + as_steps(row[3]) + [("end", row)]
    if row[0] == "times":
        return as_steps(row[2]) + [("end", row)]
    return []


# All rows in the order in which they are gone through, each as (word, row, number): word is
# "row" where the row stands, "else" and "end" where a when or a times has these; number is
# the row's own in all of them. Rows may stand so deep within one another that calls can't
# follow, so what is still to come is kept in a list.
def steps_of(rows):
    steps = []
    count = 0
    waiting = [(step[0], step[1], -1) for step in reversed(as_steps(rows))]
    while waiting:
        step = waiting.pop()
        if step[0] == "row":
            row = step[1]
            steps.append(("row", row, count))
            waiting.extend([(inner[0], inner[1], count) for inner in reversed(inner_steps(row))])
            count += 1
        else:
            steps.append(step)
    return steps


def begins_rows(word, row):
    return word == "else" or (word == "row" and row[0] in ("when", "times"))


# The rows anew: in the place of each stand those of the list that change tells of it and its
# number. What a when or a times has in it is changed ahead of itself.
def rebuilt(rows, change):
    # The new rows so far of each tuple of rows that is not at its end.
    blocks = [[]]
    for word, row, number in steps_of(rows):
        if begins_rows(word, row):
            blocks.append([])
        elif word == "row":
            blocks[-1].extend(change(row, number))
        else:
            many = len(row[2:])
            inner = tuple([tuple(block) for block in blocks[-many:]])
            blocks = blocks[:-many]
            blocks[-1].extend(change(row[:2] + inner, number))
    return tuple(blocks[0])


# A part is a row or a tuple of rows; such a tuple begins with a row, if with anything.
def is_row(part):
    return len(part) > 0 and isinstance(part[0], str)


def parts_right_in(part):
    if not is_row(part):
        return list(part)
    if part[0] == "when":
        return [part[2], part[3]]
    if part[0] == "times":
        return [part[2]]
    return []


def places_right_in(place, part):
    return [place + (k,) for k in range(len(parts_right_in(part)))]


# Each place with its part, parts ahead of what they are in.
def places_of(rows):
    found = []
    waiting = [((), rows)]
    while waiting:
        found.append(waiting.pop())
        place = found[-1][0]
        part = found[-1][1]
        waiting.extend(list(zip(places_right_in(place, part), parts_right_in(part))))
    # The last in a part was found first, and each behind what it is in.
    return list(reversed(found))
