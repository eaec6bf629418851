"""Papers: lines that show a program's price, each out of lines ahead, without a look at any crowd."""

from pairedthrows.errors import NoPaper
from pairedthrows.forms import is_row, parts_right_in, places_of, places_right_in
from pairedthrows.fractions import less
from pairedthrows.needed import is_idle, needed
from pairedthrows.prices import FREE, price_made, price_of_row, prices_of

RULES = {"let": "plain", "tell": "plain", "when": "either", "times": "again"}


def part_at(program, place):
    part = program[1]
    for number in place:
        parts = parts_right_in(part)
        if not 0 <= number < len(parts):
            return None
        part = parts[number]
    return part


# The rule by what the part is, idle or not.
def rule_of(part):
    return RULES.get(part[0], "throw") if is_row(part) else "rows"


def idle_part(part, names):
    return is_row(part) and is_idle(part, names)


# A paper that is being looked at: its program's needed names, its kind, and what the last line
# so far for each place shows.
class Sheet:
    def __init__(self, program, kind):
        self.program = program
        self.kind = kind
        self.names = needed(program)
        self.shown = {}


# The least that a line of this place and rule may show, or None where there can be none.
def due_of(sheet, place, rule):
    part = part_at(sheet.program, place)
    if part is None:
        return None
    if rule == "idle":
        return FREE if idle_part(part, sheet.names) else None
    if rule != rule_of(part):
        return None
    if rule in ("throw", "plain"):
        return price_of_row(part, sheet.kind)
    places = places_right_in(place, part)
    if not all([inner in sheet.shown for inner in places]):
        return None
    return price_made(part, [sheet.shown[inner] for inner in places])


def is_right(sheet, line):
    due = due_of(sheet, line[0], line[1])
    return due is not None and not less(line[2], due[0]) and not less(line[3], due[1])


def paper_shows(program, kind, paper):
    sheet = Sheet(program, kind)
    for at, line in enumerate(paper):
        if not is_right(sheet, line):
            raise NoPaper(at)
        sheet.shown[line[0]] = (line[2], line[3])
    if not paper or paper[-1][0] != ():
        raise NoPaper(len(paper))
    return sheet.shown[()]


def paper_of(program, kind):
    names = needed(program)
    prices = prices_of(program, kind)
    lines = []
    for place, part in places_of(program[1]):
        rule = "idle" if idle_part(part, names) else rule_of(part)
        lines.append((place, rule) + prices[place])
    return tuple(lines)
